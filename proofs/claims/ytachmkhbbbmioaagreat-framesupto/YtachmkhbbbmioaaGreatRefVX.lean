import Derived.Test.YtachmkhbbbmioaaGreatOpA
import Derived.Test.YtachmkhbbbmioaaGreatBytX
import Derived.Test.YtachmkhbbbmioaaGreatLineQX
import Derived.Laws.IdiomStrings
namespace Go.Proofs.YtachmkhbbbmioaaGreat
open Go.RowKit Go.Shelf

theorem conv1 {w : World} {a : Nat} {x : Int} (h : w.cell? ⟨a, 0, none⟩ = some (.int .u8 x)) (hx : 0 ≤ x) (h2 : x < 256) : (convert 69 9 (.slice (some ⟨a, 0, none⟩) 1 1)).run Tryz.prog w = .ok (str [UInt8.ofNat x.toNat]) w := by
  refine run_convert_bytes_back w 69 9 5 ⟨a, 0, none⟩ 1 [UInt8.ofNat x.toNat] Tryz.underlying69 Tryz.underlying5 Tryz.underlying9 ?_
  intro j hj
  obtain rfl : j = 0 := by simpa using hj
  have e : ((UInt8.ofNat x.toNat).toNat : Int) = x := by simp; omega
  show w.cell? ((⟨a, 0, none⟩ : Addr).add 0) = some (.int .u8 ((UInt8.ofNat x.toNat).toNat : Int))
  rw [e]
  simpa [Addr.add] using h

theorem varint_zero (n : Int) (hn0 : 0 ≤ n) (hn : n < 128) (w : World) :
    Calls Tryz.prog 73 #[.int .i64 n] w fun e w' => e = .returned (str (vb n.toNat)) ∧ w.grownBy w' none := by
  have hc := @conv1 (w.alloc (.cells #[.int .u8 n] 5)) w.heap.size n (by simp) hn0 (by omega)
  have hw : IntKind.u8.wrap n = n := by rw [IntKind.wrap_u8]; omega
  go_enter Tryz.func73, Tryz.ntmps73
  go_wp2_with fail
  go_ret
  refine ⟨?_, grown_alloc (grown_refl _) _⟩
  rw [vb_small (by omega)]
  rfl

theorem sadd (a b : List UInt8) (h : a.length + b.length ≤ 100000000) (w : World) : (Op.stringOp .add ⟨a.toArray⟩ ⟨b.toArray⟩).run Tryz.prog w = .ok (str (a ++ b)) w := by
  have := run_string_add_sum (P := Tryz.prog) (w := w) ⟨a.toArray⟩ ⟨b.toArray⟩ (by simp [ByteArray.size]; omega)
  rwa [ByteArray.mk_append_mk] at this

theorem grown_cells {w w' : World} (h : w.grownBy w' none) : ∀ (b o : Nat), b < w.heap.size → w'.cell? ⟨b, o, none⟩ = w.cell? ⟨b, o, none⟩ := fun b o hb => World.cell?_of_block (h.block b hb (by simp))

set_option maxRecDepth 100000 in
set_option maxHeartbeats 2000000 in
theorem varint_step (n : Int) (hn0 : 128 ≤ n) (hn : n < 9223372036854775808) (l : List UInt8) (hl : vb (n / 128).toNat = l) (hll : l.length ≤ 100) (w : World)
    (ih : ∀ w, Calls Tryz.prog 73 #[.int .i64 (n / 128)] w fun e w' => e = .returned (str l) ∧ w.grownBy w' none) :
    Calls Tryz.prog 73 #[.int .i64 n] w fun e w' => e = .returned (str (vb n.toNat)) ∧ w.grownBy w' none := by
  have hc := fun (w : World) (a : Nat) (h : w.cell? ⟨a, 0, none⟩ = some (.int .u8 (n % 128 + 128))) => @conv1 w a (n % 128 + 128) h (by omega) (by omega)
  have e1 : n.tmod 128 = n % 128 := by rw [Int.tmod_eq_emod_of_nonneg (by omega)]
  have e2 : n.tdiv 128 = n / 128 := by rw [Int.tdiv_eq_ediv_of_nonneg (by omega)]
  have hw : IntKind.u8.wrap (n % 128 + 128) = n % 128 + 128 := by rw [IntKind.wrap_u8]; omega
  have hw2 : IntKind.i64.wrap (n % 128 + 128) = n % 128 + 128 := by rw [IntKind.wrap_i64]; omega
  have hw3 : IntKind.i64.wrap (n / 128) = n / 128 := by rw [IntKind.wrap_i64]; omega
  have ha := fun w => sadd [UInt8.ofNat (n % 128 + 128).toNat] l (by simp; omega) w
  have hlt : ¬ n < 128 := by omega
  have hfin : str ([UInt8.ofNat (n % 128 + 128).toNat] ++ l) = str (vb n.toNat) := by
    have q1 : (n % 128 + 128).toNat = n.toNat % 128 + 128 := by omega
    have q2 : n.toNat / 128 = (n / 128).toNat := by omega
    rw [vb_great (by omega), q1, q2, hl]; rfl
  have IH := hide ih
  clear ih
  go_enter Tryz.func73, Tryz.ntmps73
  go_wp2_with fail
  go_region_with (go_at_call 73; refine (IH.out _).mono ?_; rintro e w' ⟨rfl, hg⟩; have hk := grown_cells hg)
  all_goals go_wp2_with fail
  all_goals
    go_ret
    refine ⟨congrArg Ending.returned hfin, ?_⟩
    repeat (first | exact grown_refl _ | refine grown_trans ?_ hg | refine grown_alloc ?_ _ | refine grown_drew ?_)

/-- The document's varint. -/
theorem varintR (n : Int) (hn0 : 0 ≤ n) (hn : n < 9223372036854775808) (w : World) :
    Calls Tryz.prog 73 #[.int .i64 n] w fun e w' => e = .returned (str (vb n.toNat)) ∧ w.grownBy w' none := by
  have key : ∀ (k : Nat) (n : Int), 0 ≤ n → n < 128 ^ (k + 1) → n < 9223372036854775808 → ∀ w, Calls Tryz.prog 73 #[.int .i64 n] w fun e w' => e = .returned (str (vb n.toNat)) ∧ w.grownBy w' none := by
    intro k
    induction k with
    | zero => intro n h0 h1 _ w; exact varint_zero n h0 (by omega) w
    | succ k ih =>
      intro n h0 h1 h2 w
      by_cases q : n < 128
      · exact varint_zero n h0 q w
      · have h3 : n / 128 < 128 ^ (k + 1) := by
          rw [Int.pow_succ] at h1
          exact Int.ediv_lt_of_lt_mul (by omega) h1
        refine varint_step n (by omega) h2 _ rfl ?_ w (fun w => ih (n / 128) (by omega) h3 (by omega) w)
        have h4 : (n / 128).toNat < 128 ^ (8 + 1) := by omega
        have := vb_len 8 _ h4
        omega
  exact key 8 n hn0 (by omega) hn w

theorem vb_len9 (x : Int) (h : x < 9223372036854775808) : (vb x.toNat).length ≤ 9 := vb_len 8 _ (by omega)

theorem vbs_len (l : List Int) (h : ∀ x ∈ l, x < 9223372036854775808) : (vbs l).length ≤ 9 * l.length := by
  induction l with
  | nil => simp [vbs]
  | cons x l ih =>
    have h1 := vb_len9 x (h x (by simp))
    have h2 := ih (fun y hy => h y (by simp [hy]))
    simp only [vbs, List.length_append, List.length_cons]
    omega

end Go.Proofs.YtachmkhbbbmioaaGreat


namespace Go.Proofs.YtachmkhbbbmioaaGreat
open Go.RowKit Go.Shelf

theorem sindex (l : List UInt8) (i : Nat) (b : UInt8) (h : l[i]? = some b) (w : World) : (Instr.index 9 (str l) (.int .i64 (i : Int))).run Tryz.prog w = .ok (.int .u8 (b.toNat : Int)) w := by
  have hi := (List.getElem?_eq_some_iff.1 h).1
  rw [run_index_string w 9 ⟨l.toArray⟩ .i64 i Tryz.underlying9]
  have h2 : (0 : Int) ≤ (i : Int) ∧ (i : Int) < ((⟨l.toArray⟩ : ByteArray).size : Int) := by simp [ByteArray.size]; exact hi
  rw [dif_pos h2]
  have h3 : (⟨l.toArray⟩ : ByteArray)[(i : Int).toNat]'(by omega) = b := by
    have := (List.getElem?_eq_some_iff.1 h).2
    simpa [ByteArray.getElem_eq_getElem_data] using this
  rw [h3]

theorem conv4 {w : World} {a : Nat} {x y z u : Int} (k0 : w.cell? ⟨a, 0, none⟩ = some (.int .u8 (x % 256))) (k1 : w.cell? ⟨a, 1, none⟩ = some (.int .u8 (y % 256))) (k2 : w.cell? ⟨a, 2, none⟩ = some (.int .u8 (z % 256))) (k3 : w.cell? ⟨a, 3, none⟩ = some (.int .u8 (u % 256))) : (convert 69 9 (.slice (some ⟨a, 0, none⟩) 4 4)).run Tryz.prog w = .ok (str [lob x, lob y, lob z, lob u]) w := by
  refine run_convert_bytes_back w 69 9 5 ⟨a, 0, none⟩ 4 [lob x, lob y, lob z, lob u] Tryz.underlying69 Tryz.underlying5 Tryz.underlying9 ?_
  intro j hj
  match j, hj with
  | 0, _ => show w.cell? ((⟨a, 0, none⟩ : Addr).add 0) = some (.int .u8 ((lob x).toNat : Int)); rw [lob_nat]; simpa [Addr.add] using k0
  | 1, _ => show w.cell? ((⟨a, 0, none⟩ : Addr).add 1) = some (.int .u8 ((lob y).toNat : Int)); rw [lob_nat]; simpa [Addr.add] using k1
  | 2, _ => show w.cell? ((⟨a, 0, none⟩ : Addr).add 2) = some (.int .u8 ((lob z).toNat : Int)); rw [lob_nat]; simpa [Addr.add] using k2
  | 3, _ => show w.cell? ((⟨a, 0, none⟩ : Addr).add 3) = some (.int .u8 ((lob u).toNat : Int)); rw [lob_nat]; simpa [Addr.add] using k3
  | j + 4, hj => simp at hj; omega

set_option maxRecDepth 100000 in
set_option maxHeartbeats 1000000 in
theorem sumR (l : List UInt8) (hl : l.length ≤ 100000000) (w : World) :
    Calls Tryz.prog 76 #[str l] w fun e w' => e = .returned (str (sum4 l)) ∧ w.grownBy w' none := by
  go_enter Tryz.func76, Tryz.ntmps76
  go_wp2_with fail
  go_loopg [3, 4] l.length (fun g s3 s4 wr => ∃ (i : Nat), s4 = .int .i64 i ∧ i ≤ l.length ∧ g = l.length - i ∧ s3 = .int .u32 (fsum (l.take i)) ∧ wr = w)
  case atStart => exact ⟨0, rfl, by omega, rfl, by simp [fsum], rfl⟩
  case round =>
    obtain ⟨i, rfl, hil, hgk, rfl, hw⟩ := hrel
    rw [hw]
    clear hw wr
    by_cases hlt : i < l.length
    · have hli : (i : Int) < (l.length : Int) := by omega
      obtain ⟨b, hb⟩ : ∃ b, l[i]? = some b := ⟨l[i], by simp [hlt]⟩
      have hx := fun w => sindex l i b hb w
      have hst := fsum_take l i b hb
      unfold fstep at hst
      have hnn := fsum_nn (l.take i)
      have hbb : ((b.toNat : Int)) < 256 := by have := b.toNat_lt; omega
      have hwb : IntKind.u32.wrap (b.toNat : Int) = (b.toNat : Int) := by rw [IntKind.wrap_u32]; omega
      go_wp2_with fail
      go_roundg (l.length - (i + 1))
      case measure => omega
      case rel => exact ⟨i + 1, by go_num, by omega, rfl, by rw [hst, IntKind.wrap_u32], rfl⟩
    · obtain rfl : i = l.length := by omega
      rw [List.take_length]
      have hc := @conv4 (w.alloc (.cells #[.int .u8 (fsum l / 16777216 % 256), .int .u8 (fsum l / 65536 % 256), .int .u8 (fsum l / 256 % 256), .int .u8 (fsum l % 256)] 5)) w.heap.size (fsum l / 16777216) (fsum l / 65536) (fsum l / 256) (fsum l) (by simp) (by simp) (by simp) (by simp)
      go_wp2_with fail
      go_ret
      exact ⟨rfl, grown_alloc (grown_refl _) _⟩

end Go.Proofs.YtachmkhbbbmioaaGreat

namespace Go.Proofs.YtachmkhbbbmioaaGreat
open Go.RowKit Go.Shelf
attribute [local go_sem ↓] Go.wp_at_zero Go.wp_at_succ

set_option maxRecDepth 100000 in
set_option maxHeartbeats 1000000 in
theorem of_any (b off : Nat) (s : Int) (h1 : 1 ≤ s) (h2 : s ≤ 8) (v : Int) (w : World) (hc : w.cell? ⟨b, off + (s.toNat - 1), none⟩ = some (.int .i64 v)) :
    Calls Tryz.prog 130 #[.pointer (some ⟨b, off, none⟩), .int .i64 s] w fun r w' => r = .returned (.int .i64 v) ∧ w' = w := by
  go_enter Tryz.func130, Tryz.ntmps130
  go_wp2
  go_ret
  exact ⟨rfl, rfl⟩

set_option maxRecDepth 100000 in
set_option maxHeartbeats 1000000 in
theorem count_any (b off : Nat) (s : Int) (h1 : 1 ≤ s) (h2 : s ≤ 8) (v : Int) (hv : 0 ≤ v) (hv2 : v ≤ 1000000) (w : World) (hc : w.cell? ⟨b, off + (s.toNat - 1), none⟩ = some (.int .i64 v)) (hf : w.frozen? ⟨b, off + (s.toNat - 1), none⟩ = false) :
    Calls Tryz.prog 157 #[.pointer (some ⟨b, off, none⟩), .int .i64 s] w fun r w' => r = .returned (.tuple #[]) ∧ w' = (w.setCell ⟨b, off + (s.toNat - 1), none⟩ (.int .i64 (v + 1))).drew := by
  go_enter Tryz.func157, Tryz.ntmps157
  go_wp2
  go_region
  all_goals go_wp2_with fail
  all_goals go_end0
  all_goals exact ⟨rfl, rfl⟩

end Go.Proofs.YtachmkhbbbmioaaGreat

namespace Go.Proofs.YtachmkhbbbmioaaGreat
open Go.RowKit Go.Shelf

/-- Nothing that lay in w has turned, but for the blocks named. -/
structure Fr (bs : List Nat) (w w' : World) : Prop where
  os : w'.os = w.os
  tape : w'.tape = w.tape
  output : w'.output = w.output
  size : w.heap.size ≤ w'.heap.size
  block : ∀ k, k < w.heap.size → k ∉ bs → w'.heap[k]? = w.heap[k]?

theorem Fr.refl (bs : List Nat) (w : World) : Fr bs w w := ⟨rfl, rfl, rfl, Nat.le_refl _, fun _ _ _ => rfl⟩
theorem Fr.trans {bs : List Nat} {a b c : World} (h : Fr bs a b) (k : Fr bs b c) : Fr bs a c :=
  ⟨k.os.trans h.os, k.tape.trans h.tape, k.output.trans h.output, Nat.le_trans h.size k.size, fun i hi hn => (k.block i (Nat.lt_of_lt_of_le hi h.size) hn).trans (h.block i hi hn)⟩
theorem Fr.mono {bs cs : List Nat} {a b : World} (h : Fr bs a b) (hs : ∀ x ∈ bs, x ∈ cs) : Fr cs a b := ⟨h.os, h.tape, h.output, h.size, fun i hi hn => h.block i hi (fun q => hn (hs i q))⟩
theorem Fr.drew {bs : List Nat} {a w : World} (h : Fr bs a w) : Fr bs a w.drew := ⟨h.os, h.tape, h.output, h.size, h.block⟩
theorem Fr.alloc {bs : List Nat} {a w : World} (h : Fr bs a w) (o : Obj) : Fr bs a (w.alloc o) :=
  ⟨h.os, h.tape, h.output, by have := h.size; simp; omega, fun i hi hn => (Below.heap_alloc _ _ _ (by have := h.size; omega)).trans (h.block i hi hn)⟩
theorem Fr.setCell {bs : List Nat} {a w : World} (h : Fr bs a w) {p : Addr} (hp : p.block ∈ bs ∨ a.heap.size ≤ p.block) (v : Value) : Fr bs a (w.setCell p v) :=
  ⟨h.os, h.tape, h.output, by have := h.size; simpa [World.setCell] using this, fun i hi hn => by
    rw [Below.heap_setCell _ _ _ _ (fun q => by rcases hp with hp | hp; exact hn (q ▸ hp); omega)]; exact h.block i hi hn⟩
theorem Fr.grown {bs : List Nat} {a w w' : World} {row : Option Nat} (h : Fr bs a w) (g : w.grownBy w' row) (hr : ∀ k, row = some k → k ∈ bs ∨ a.heap.size ≤ k) : Fr bs a w' :=
  ⟨g.os.trans h.os, g.tape.trans h.tape, g.output.trans h.output, Nat.le_trans h.size g.size, fun i hi hn =>
    (g.block i (Nat.lt_of_lt_of_le hi h.size) (fun q => by rcases hr i q.symm with q | q; exact hn q; omega)).trans (h.block i hi hn)⟩
theorem Fr.below {bs : List Nat} {a w w' : World} {B : Nat} (h : Fr bs a w) (g : Below B w w') (hB : a.heap.size ≤ B) : Fr bs a w' :=
  ⟨g.os.trans h.os, g.tape.trans h.tape, g.output.trans h.output, Nat.le_trans h.size g.size, fun i hi hn => (g.block i (by omega)).trans (h.block i hi hn)⟩
theorem Fr.toBelow {bs : List Nat} {w w' : World} (h : Fr bs w w') {B : Nat} (hB : B ≤ w.heap.size) (hb : ∀ x ∈ bs, B ≤ x) : Below B w w' :=
  ⟨h.os, h.tape, h.output, h.size, fun k hk => h.block k (by omega) (fun q => by have := hb k q; omega)⟩
theorem Fr.blk {bs : List Nat} {w w' : World} (h : Fr bs w w') {k : Nat} {o : Obj} (hk : w.heap[k]? = some o) (hn : k ∉ bs) : w'.heap[k]? = some o := (h.block k (lt_of_heap hk) hn).trans hk
theorem Fr.ents {bs : List Nat} {w w' : World} (h : Fr bs w w') {k : Nat} {l : List Ent} (hk : entsAt w k l) (hn : k ∉ bs) : entsAt w' k l := hk.of_block (h.block k hk.lt hn)

/-- The cells of a State. -/
def stArr (n s : Int) (cl : Nat → Int) (g : Int) (ma mp lb : Nat) : Array Value :=
  #[.int .i64 n, .int .i64 s, .int .i64 (cl 0), .int .i64 (cl 1), .int .i64 (cl 2), .int .i64 (cl 3), .int .i64 (cl 4), .int .i64 (cl 5), .int .i64 (cl 6), .int .i64 (cl 7), .int .i64 g, .map (some ma), .map (some mp), .pointer (some ⟨lb, 0, none⟩)]

theorem stArr_clock (n s : Int) (cl : Nat → Int) (g : Int) (ma mp lb : Nat) : ∀ i, i < 8 → (stArr n s cl g ma mp lb)[2 + i]? = some (.int .i64 (cl i))
  | 0, _ => rfl | 1, _ => rfl | 2, _ => rfl | 3, _ => rfl | 4, _ => rfl | 5, _ => rfl | 6, _ => rfl | 7, _ => rfl
  | _ + 8, h => by omega

def bump (cl : Nat → Int) (i : Nat) : Nat → Int := fun j => if j = i then cl j + 1 else cl j

theorem stArr_bump (n s : Int) (cl : Nat → Int) (g : Int) (ma mp lb : Nat) : ∀ i, i < 8 → (stArr n s cl g ma mp lb).setIfInBounds (2 + i) (.int .i64 (cl i + 1)) = stArr n s (bump cl i) g ma mp lb
  | 0, _ => rfl | 1, _ => rfl | 2, _ => rfl | 3, _ => rfl | 4, _ => rfl | 5, _ => rfl | 6, _ => rfl | 7, _ => rfl
  | _ + 8, h => by omega

theorem stArr_great (n s : Int) (cl : Nat → Int) (g g' : Int) (ma mp lb : Nat) : (stArr n s cl g ma mp lb).setIfInBounds 10 (.int .i64 g') = stArr n s cl g' ma mp lb := rfl

/-- What a copy knows. -/
structure CS where
  n : Nat
  s : Nat
  cl : Nat → Int
  g : Int
  L : List El
  ops : List OpR
  wt : List OpR

/-- What was applied, by origin and number. -/
def AppIs (E : List Ent) (ops : List OpR) : Prop := ∀ o num, look o num E = (ops.find? (fun x => x.o == o && x.num == num)).map (fun x => Value.agg x.arr)

theorem app_put {E : List Ent} {ops : List OpR} {x : OpR} {n : Nat} (h : AppIs E ops) : AppIs (put x.o x.num (.agg x.arr) n E) (x :: ops) := by
  intro o num
  rw [look_put, h, List.find?_cons]
  by_cases q : o = x.o ∧ num = x.num
  · obtain ⟨rfl, rfl⟩ := q
    simp
  · rw [if_neg q]
    have : (x.o == o && x.num == num) = false := by
      simp only [Bool.and_eq_false_iff, beq_eq_false_iff_ne]
      by_cases q1 : x.o = o
      · exact .inr (fun q2 => q ⟨q1.symm, q2.symm⟩)
      · exact .inl q1
    rw [this]

/-- What waits: the names are apart, so that the map has as many entries as the list. -/
structure PenIs (E : List Ent) (wt : List OpR) : Prop where
  app : AppIs E wt
  len : E.length = wt.length
  apart : E.Pairwise (fun x y => ¬ (x.c = y.c ∧ x.k = y.k))

theorem penIs_nil : PenIs [] [] := ⟨fun _ _ => rfl, rfl, List.Pairwise.nil⟩

/-- The operation that the copy makes next. -/
def opIns (S : CS) (tc tk r : Int) : OpR := ⟨S.s, S.cl (S.s - 1) + 1, S.g + 1, 0, tc, tk, r, S.cl⟩
def opDel (S : CS) (tc tk : Int) : OpR := ⟨S.s, S.cl (S.s - 1) + 1, S.g + 1, 1, tc, tk, 0, S.cl⟩

/-- The state lies at block sb; its maps at ma (applied), mp (pending), mb (elements); its line at lb. -/
structure StAt (sb ma mp lb mb : Nat) (S : CS) (w : World) : Prop where
  st : w.heap[sb]? = some (.cells (stArr S.n S.s S.cl S.g ma mp lb) 138)
  app : ∃ E, entsAt w ma E ∧ AppIs E S.ops
  pen : ∃ E, entsAt w mp E ∧ PenIs E S.wt
  ln : ∃ E, Ln lb mb E w ∧ LineIs E S.L
  ne1 : ma ≠ mp
  ne2 : ma ≠ mb
  ne3 : mp ≠ mb

/-- The blocks of a state that writing turns. -/
abbrev own3 (sb ma mb : Nat) : List Nat := [sb, ma, mb]

theorem StAt.kept {sb ma mp lb mb : Nat} {S : CS} {w w' : World} (h : StAt sb ma mp lb mb S w) (e : ∀ k, k = sb ∨ k = ma ∨ k = mp ∨ k = lb ∨ k = mb → w'.heap[k]? = w.heap[k]?) : StAt sb ma mp lb mb S w' := by
  obtain ⟨E, h1, h2⟩ := h.ln
  obtain ⟨EA, h3, h4⟩ := h.app
  obtain ⟨EP, h5, h6⟩ := h.pen
  exact ⟨(e sb (by simp)).trans h.st, ⟨EA, h3.of_block (e ma (by simp)), h4⟩, ⟨EP, h5.of_block (e mp (by simp)), h6⟩, ⟨E, ⟨(e lb (by simp)).trans h1.line, h1.ents.of_block (e mb (by simp))⟩, h2⟩, h.ne1, h.ne2, h.ne3⟩

theorem StAt.lts {sb ma mp lb mb : Nat} {S : CS} {w : World} (h : StAt sb ma mp lb mb S w) : ∀ k, k = sb ∨ k = ma ∨ k = mp ∨ k = lb ∨ k = mb → k < w.heap.size := by
  obtain ⟨E, h1, h2⟩ := h.ln
  obtain ⟨EA, h3, h4⟩ := h.app
  obtain ⟨EP, h5, h6⟩ := h.pen
  rintro k (rfl | rfl | rfl | rfl | rfl)
  · exact lt_of_heap h.st
  · exact h3.lt
  · exact h5.lt
  · exact lt_of_heap h1.line
  · exact h1.ents.lt

theorem StAt.below {sb ma mp lb mb : Nat} {S : CS} {w w' : World} (h : StAt sb ma mp lb mb S w) (g : Below w.heap.size w w') : StAt sb ma mp lb mb S w' := h.kept (fun k hk => g.block k (h.lts k hk))
theorem StAt.grown {sb ma mp lb mb : Nat} {S : CS} {w w' : World} (h : StAt sb ma mp lb mb S w) (g : w.grownBy w' none) : StAt sb ma mp lb mb S w' := h.kept (fun k hk => g.block k (h.lts k hk) (by simp))

end Go.Proofs.YtachmkhbbbmioaaGreat

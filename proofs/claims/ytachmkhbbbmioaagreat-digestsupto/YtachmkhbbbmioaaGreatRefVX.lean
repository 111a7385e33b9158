import Derived.Test.YtachmkhbbbmioaaGreatOpA
import Derived.Test.YtachmkhbbbmioaaGreatBytX
import Derived.Test.YtachmkhbbbmioaaGreatLineQX
import Derived.Laws.IdiomStrings
import Derived.Test.YtachmkhbbbmioaaGreatRefFX
namespace Go.Proofs.YtachmkhbbbmioaaGreat
open Go.RowKit Go.Shelf

theorem conv1 {w : World} {a : Nat} {x : Int} (h : w.cell? ⟨a, 0, none⟩ = some (.int .u8 x)) (hx : 0 ≤ x) (h2 : x < 256) : (convert 69 9 (.slice (some ⟨a, 0, none⟩) 1 1)).run Tryz.prog w = .ok (str [UInt8.ofNat x.toNat]) w := by
  refine run_convert_bytes_back w 69 9 5 ⟨a, 0, none⟩ 1 [UInt8.ofNat x.toNat] Tryz.underlying69 Tryz.underlying5 Tryz.underlying9 ?_
  intro j hj
  obtain rfl : j = 0 := by simpa using hj
  have e : ((UInt8.ofNat x.toNat).toNat : Int) = x := by simp; omega
  show w.cell? ((⟨a, 0, none⟩ : Addr).add 0) = some (.int .u8 ((UInt8.ofNat x.toNat).toNat : Int))
  rw [e]
  simpa [Addr.add] using h

theorem varint_zero (n : Int) (hn0 : 0 ≤ n) (hn : n < 128) (w : World) :
    Calls Tryz.prog 73 #[.int .i64 n] w fun e w' => e = .returned (str (vb n.toNat)) ∧ w.grownBy w' none := by
  have hc := @conv1 (w.alloc (.cells #[.int .u8 n] 5)) w.heap.size n (by simp) hn0 (by omega)
  have hw : IntKind.u8.wrap n = n := by rw [IntKind.wrap_u8]; omega
  go_enter Tryz.func73, Tryz.ntmps73
  go_wp2_with fail
  go_ret
  refine ⟨?_, grown_alloc (grown_refl _) _⟩
  rw [vb_small (by omega)]
  rfl

theorem sadd (a b : List UInt8) (h : a.length + b.length ≤ 100000000) (w : World) : (Op.stringOp .add ⟨a.toArray⟩ ⟨b.toArray⟩).run Tryz.prog w = .ok (str (a ++ b)) w := by
  have := run_string_add_sum (P := Tryz.prog) (w := w) ⟨a.toArray⟩ ⟨b.toArray⟩ (by simp [ByteArray.size]; omega)
  rwa [ByteArray.mk_append_mk] at this

theorem grown_cells {w w' : World} (h : w.grownBy w' none) : ∀ (b o : Nat), b < w.heap.size → w'.cell? ⟨b, o, none⟩ = w.cell? ⟨b, o, none⟩ := fun b o hb => World.cell?_of_block (h.block b hb (by simp))

set_option maxRecDepth 100000 in
set_option maxHeartbeats 2000000 in
theorem varint_step (n : Int) (hn0 : 128 ≤ n) (hn : n < 4611686018427387904) (l : List UInt8) (hl : vb (n / 128).toNat = l) (hll : l.length ≤ 100) (w : World)
    (ih : ∀ w, Calls Tryz.prog 73 #[.int .i64 (n / 128)] w fun e w' => e = .returned (str l) ∧ w.grownBy w' none) :
    Calls Tryz.prog 73 #[.int .i64 n] w fun e w' => e = .returned (str (vb n.toNat)) ∧ w.grownBy w' none := by
  have hc := fun (w : World) (a : Nat) (h : w.cell? ⟨a, 0, none⟩ = some (.int .u8 (n % 128 + 128))) => @conv1 w a (n % 128 + 128) h (by omega) (by omega)
  have e1 : n.tmod 128 = n % 128 := by rw [Int.tmod_eq_emod_of_nonneg (by omega)]
  have e2 : n.tdiv 128 = n / 128 := by rw [Int.tdiv_eq_ediv_of_nonneg (by omega)]
  have hw : IntKind.u8.wrap (n % 128 + 128) = n % 128 + 128 := by rw [IntKind.wrap_u8]; omega
  have hw2 : IntKind.i64.wrap (n % 128 + 128) = n % 128 + 128 := by rw [IntKind.wrap_i64]; omega
  have hw3 : IntKind.i64.wrap (n / 128) = n / 128 := by rw [IntKind.wrap_i64]; omega
  have ha := fun w => sadd [UInt8.ofNat (n % 128 + 128).toNat] l (by simp; omega) w
  have hlt : ¬ n < 128 := by omega
  have hfin : str ([UInt8.ofNat (n % 128 + 128).toNat] ++ l) = str (vb n.toNat) := by
    have q1 : (n % 128 + 128).toNat = n.toNat % 128 + 128 := by omega
    have q2 : n.toNat / 128 = (n / 128).toNat := by omega
    rw [vb_great (by omega), q1, q2, hl]; rfl
  have IH := hide ih
  clear ih
  go_enter Tryz.func73, Tryz.ntmps73
  go_wp2_with fail
  go_region_with (go_at_call 73; refine (IH.out _).mono ?_; rintro e w' ⟨rfl, hg⟩; have hk := grown_cells hg)
  all_goals go_wp2_with fail
  all_goals
    go_ret
    refine ⟨congrArg Ending.returned hfin, ?_⟩
    repeat (first | exact grown_refl _ | refine grown_trans ?_ hg | refine grown_alloc ?_ _ | refine grown_drew ?_)

/-- The document's varint. -/
theorem varintR (n : Int) (hn0 : 0 ≤ n) (hn : n < 4611686018427387904) (w : World) :
    Calls Tryz.prog 73 #[.int .i64 n] w fun e w' => e = .returned (str (vb n.toNat)) ∧ w.grownBy w' none := by
  have key : ∀ (k : Nat) (n : Int), 0 ≤ n → n < 128 ^ (k + 1) → n < 4611686018427387904 → ∀ w, Calls Tryz.prog 73 #[.int .i64 n] w fun e w' => e = .returned (str (vb n.toNat)) ∧ w.grownBy w' none := by
    intro k
    induction k with
    | zero => intro n h0 h1 _ w; exact varint_zero n h0 (by omega) w
    | succ k ih =>
      intro n h0 h1 h2 w
      by_cases q : n < 128
      · exact varint_zero n h0 q w
      · have h3 : n / 128 < 128 ^ (k + 1) := by
          rw [Int.pow_succ] at h1
          exact Int.ediv_lt_of_lt_mul (by omega) h1
        refine varint_step n (by omega) h2 _ rfl ?_ w (fun w => ih (n / 128) (by omega) h3 (by omega) w)
        have h4 : (n / 128).toNat < 128 ^ (8 + 1) := by omega
        have := vb_len 8 _ h4
        omega
  exact key 8 n hn0 (by omega) hn w

theorem vb_len9 (x : Int) (h : x < 4611686018427387904) : (vb x.toNat).length ≤ 9 := vb_len 8 _ (by omega)

theorem vbs_len (l : List Int) (h : ∀ x ∈ l, x < 4611686018427387904) : (vbs l).length ≤ 9 * l.length := by
  induction l with
  | nil => simp [vbs]
  | cons x l ih =>
    have h1 := vb_len9 x (h x (by simp))
    have h2 := ih (fun y hy => h y (by simp [hy]))
    simp only [vbs, List.length_append, List.length_cons]
    omega

end Go.Proofs.YtachmkhbbbmioaaGreat


namespace Go.Proofs.YtachmkhbbbmioaaGreat
open Go.RowKit Go.Shelf

theorem sindex (l : List UInt8) (i : Nat) (b : UInt8) (h : l[i]? = some b) (w : World) : (Instr.index 9 (str l) (.int .i64 (i : Int))).run Tryz.prog w = .ok (.int .u8 (b.toNat : Int)) w := by
  have hi := (List.getElem?_eq_some_iff.1 h).1
  rw [run_index_string w 9 ⟨l.toArray⟩ .i64 i Tryz.underlying9]
  have h2 : (0 : Int) ≤ (i : Int) ∧ (i : Int) < ((⟨l.toArray⟩ : ByteArray).size : Int) := by simp [ByteArray.size]; exact hi
  rw [dif_pos h2]
  have h3 : (⟨l.toArray⟩ : ByteArray)[(i : Int).toNat]'(by omega) = b := by
    have := (List.getElem?_eq_some_iff.1 h).2
    simpa [ByteArray.getElem_eq_getElem_data] using this
  rw [h3]

theorem conv4 {w : World} {a : Nat} {x y z u : Int} (k0 : w.cell? ⟨a, 0, none⟩ = some (.int .u8 (x % 256))) (k1 : w.cell? ⟨a, 1, none⟩ = some (.int .u8 (y % 256))) (k2 : w.cell? ⟨a, 2, none⟩ = some (.int .u8 (z % 256))) (k3 : w.cell? ⟨a, 3, none⟩ = some (.int .u8 (u % 256))) : (convert 69 9 (.slice (some ⟨a, 0, none⟩) 4 4)).run Tryz.prog w = .ok (str [lob x, lob y, lob z, lob u]) w := by
  refine run_convert_bytes_back w 69 9 5 ⟨a, 0, none⟩ 4 [lob x, lob y, lob z, lob u] Tryz.underlying69 Tryz.underlying5 Tryz.underlying9 ?_
  intro j hj
  match j, hj with
  | 0, _ => show w.cell? ((⟨a, 0, none⟩ : Addr).add 0) = some (.int .u8 ((lob x).toNat : Int)); rw [lob_nat]; simpa [Addr.add] using k0
  | 1, _ => show w.cell? ((⟨a, 0, none⟩ : Addr).add 1) = some (.int .u8 ((lob y).toNat : Int)); rw [lob_nat]; simpa [Addr.add] using k1
  | 2, _ => show w.cell? ((⟨a, 0, none⟩ : Addr).add 2) = some (.int .u8 ((lob z).toNat : Int)); rw [lob_nat]; simpa [Addr.add] using k2
  | 3, _ => show w.cell? ((⟨a, 0, none⟩ : Addr).add 3) = some (.int .u8 ((lob u).toNat : Int)); rw [lob_nat]; simpa [Addr.add] using k3
  | j + 4, hj => simp at hj; omega

set_option maxRecDepth 100000 in
set_option maxHeartbeats 1000000 in
theorem sumR (l : List UInt8) (hl : l.length ≤ 1000000) (w : World) :
    Calls Tryz.prog 76 #[str l] w fun e w' => e = .returned (str (sum4 l)) ∧ w.grownBy w' none := by
  go_enter Tryz.func76, Tryz.ntmps76
  go_wp2_with fail
  go_loopg [3, 4] l.length (fun g s3 s4 wr => ∃ (i : Nat), s4 = .int .i64 i ∧ i ≤ l.length ∧ g = l.length - i ∧ s3 = .int .u32 (fsum (l.take i)) ∧ wr = w)
  case atStart => exact ⟨0, rfl, by omega, rfl, by simp [fsum], rfl⟩
  case round =>
    obtain ⟨i, rfl, hil, hgk, rfl, hw⟩ := hrel
    rw [hw]
    clear hw wr
    by_cases hlt : i < l.length
    · have hli : (i : Int) < (l.length : Int) := by omega
      obtain ⟨b, hb⟩ : ∃ b, l[i]? = some b := ⟨l[i], by simp [hlt]⟩
      have hx := fun w => sindex l i b hb w
      have hst := fsum_take l i b hb
      unfold fstep at hst
      have hnn := fsum_nn (l.take i)
      have hbb : ((b.toNat : Int)) < 256 := by have := b.toNat_lt; omega
      have hwb : IntKind.u32.wrap (b.toNat : Int) = (b.toNat : Int) := by rw [IntKind.wrap_u32]; omega
      go_wp2_with fail
      go_roundg (l.length - (i + 1))
      case measure => omega
      case rel => exact ⟨i + 1, by go_num, by omega, rfl, by rw [hst, IntKind.wrap_u32], rfl⟩
    · obtain rfl : i = l.length := by omega
      rw [List.take_length]
      have hc := @conv4 (w.alloc (.cells #[.int .u8 (fsum l / 16777216 % 256), .int .u8 (fsum l / 65536 % 256), .int .u8 (fsum l / 256 % 256), .int .u8 (fsum l % 256)] 5)) w.heap.size (fsum l / 16777216) (fsum l / 65536) (fsum l / 256) (fsum l) (by simp) (by simp) (by simp) (by simp)
      go_wp2_with fail
      go_ret
      exact ⟨rfl, grown_alloc (grown_refl _) _⟩

end Go.Proofs.YtachmkhbbbmioaaGreat

namespace Go.Proofs.YtachmkhbbbmioaaGreat
open Go.RowKit Go.Shelf

def intRow (xs : List Int) : List (List Value) := xs.map fun x => [.int .i64 x]
theorem intRow_len (xs : List Int) : (intRow xs).length = xs.length := by simp [intRow]
theorem intRow_at {xs : List Int} {i : Nat} {x : Int} (h : xs[i]? = some x) : (intRow xs)[i]? = some [.int .i64 x] := by simp [intRow, h]

set_option maxRecDepth 100000 in
set_option maxHeartbeats 1000000 in
theorem numbersR (xs : List Int) (hxs : ∀ x ∈ xs, 0 ≤ x ∧ x < 4611686018427387904) (hl : xs.length ≤ 1000) (v : Value) (w : World) (hv : RowAt 3 1 v (intRow xs) w) :
    Calls Tryz.prog 74 #[v] w fun e w' => e = .returned (str (vbs xs)) ∧ w.grownBy w' none := by
  obtain ⟨av, cv, rfl, hcv⟩ := hv.value
  rw [intRow_len] at hv hcv ⊢
  go_enter Tryz.func74, Tryz.ntmps74
  go_wp2_with fail
  go_loopg [3, 4] xs.length (fun g s3 s4 wr => ∃ (i : Nat), s4 = .int .i64 i ∧ i ≤ xs.length ∧ g = xs.length - i ∧ s3 = str (vbs (xs.take i)) ∧ w.grownBy wr none)
  case atStart => exact ⟨0, rfl, by omega, rfl, by simp [vbs], grown_refl _⟩
  case round =>
    obtain ⟨i, rfl, hil, hgk, rfl, hG⟩ := hrel
    by_cases hlt : i < xs.length
    · have hli : (i : Int) < (xs.length : Int) := by omega
      obtain ⟨x, hx⟩ : ∃ x, xs[i]? = some x := ⟨xs[i], by simp [hlt]⟩
      have hxb := hxs x (List.mem_of_getElem? hx)
      obtain ⟨g1, c1, cur1, hv1, -, hb1, hx1⟩ := (hv.grown hG).cell (i := i) (intRow_at hx)
      rw [intRow_len] at hv1
      cases hv1
      have k1 : wr.cell? ⟨g1, i, none⟩ = some (.int .i64 x) := (cell_blk hb1 _).trans (by simpa using hx1 0 _ rfl)
      have h1 := vbs_len (xs.take i) (fun y hy => (hxs y (List.mem_of_mem_take hy)).2)
      have h1' : (xs.take i).length ≤ 1000 := by simp; omega
      have h2 := vb_len9 x hxb.2
      have ha := fun w => sadd (vbs (xs.take i)) (vb x.toNat) (by omega) w
      rw [← vbs_take xs i x hx] at ha
      have hV := hide (varintR x hxb.1 hxb.2 wr)
      clear h1 h2 h1' hx1
      go_wp2_with fail
      refine hV.out.mono ?_
      rintro e w2 ⟨rfl, hg2⟩
      go_wp2_with fail
      go_roundg (xs.length - (i + 1))
      case measure => omega
      case rel => exact ⟨i + 1, by go_num, by omega, rfl, rfl, grown_trans hG hg2⟩
    · obtain rfl : i = xs.length := by omega
      rw [List.take_length]
      go_wp2_with fail
      go_ret
      exact ⟨rfl, hG⟩

theorem len_of {a b c : List UInt8} (h : a ++ b = c) : c.length = a.length + b.length := by rw [← h]; simp
theorem sadd' {a b c : List UInt8} (h : a ++ b = c) (hl : a.length + b.length ≤ 100000000) : ∀ w, (Op.stringOp .add ⟨a.toArray⟩ ⟨b.toArray⟩).run Tryz.prog w = .ok (str c) w := fun w => by rw [← h]; exact sadd a b hl w

theorem cell_of_grown {w w' : World} {a : Addr} {x : Value} (h : w.cell? a = some x) (g : w.grownBy w' none) : w'.cell? a = some x :=
  (World.cell?_of_block (g.block _ (lt_cellW h) (by simp))).trans h

set_option maxRecDepth 100000 in
set_option maxHeartbeats 4000000 in
theorem writeOpR (x : OpR) (n : Nat) (h8 : n ≤ 8) (hx : OpOk n x) (vk : Value) (w : World) (hk : RowAt 3 1 vk (intRow (clk n x.q)) w) :
    Calls Tryz.prog 75 #[.agg #[.int .i64 x.o, .int .i64 x.num, .int .i64 x.c, .int .i64 x.kind, .int .i64 x.tc, .int .i64 x.tk, .int .i64 x.r, vk]] w fun e w' => e = .returned (str (x.bytes n)) ∧ w.grownBy w' none := by
  obtain ⟨b0, b1, b2, b3, b4, b5, b6, b7⟩ := hx
  obtain ⟨ak, ck, rfl, -⟩ := hk.value
  rw [intRow_len, clk_len] at hk ⊢
  go_enter Tryz.func75, Tryz.ntmps75
  go_upto_region 1 with fail
  have g1 : w.grownBy (w.alloc (.cells #[.int .i64 x.o, .int .i64 x.num, .int .i64 x.c, .int .i64 x.kind, .int .i64 x.tc, .int .i64 x.tk, .int .i64 x.r, Value.slice ak n ck] 88)) none := grown_alloc (grown_refl _) _
  have k1 : (w.alloc (.cells #[.int .i64 x.o, .int .i64 x.num, .int .i64 x.c, .int .i64 x.kind, .int .i64 x.tc, .int .i64 x.tk, .int .i64 x.r, Value.slice ak n ck] 88)).heap[w.heap.size]? = some (.cells #[.int .i64 x.o, .int .i64 x.num, .int .i64 x.c, .int .i64 x.kind, .int .i64 x.tc, .int .i64 x.tk, .int .i64 x.r, Value.slice ak n ck] 88) := by rw [heap_alloc_at]; simp
  generalize (w.alloc (.cells #[.int .i64 x.o, .int .i64 x.num, .int .i64 x.c, .int .i64 x.kind, .int .i64 x.tc, .int .i64 x.tk, .int .i64 x.r, Value.slice ak n ck] 88)) = w1 at g1 k1 ⊢
  generalize w.heap.size = bb at k1 ⊢
  have c0 : w1.cell? ⟨bb, 0, none⟩ = some (.int .i64 x.o) := cell_blk k1 0
  have c1 : w1.cell? ⟨bb, 1, none⟩ = some (.int .i64 x.num) := cell_blk k1 1
  have c2 : w1.cell? ⟨bb, 2, none⟩ = some (.int .i64 x.c) := cell_blk k1 2
  have c3 : w1.cell? ⟨bb, 3, none⟩ = some (.int .i64 x.kind) := cell_blk k1 3
  have c4 : w1.cell? ⟨bb, 4, none⟩ = some (.int .i64 x.tc) := cell_blk k1 4
  have c5 : w1.cell? ⟨bb, 5, none⟩ = some (.int .i64 x.tk) := cell_blk k1 5
  have l0 := vb_len9 x.o (by omega)
  have l1 := vb_len9 x.num (by omega)
  have l2 := vb_len9 x.c (by omega)
  have l3 := vb_len9 x.kind (by omega)
  have l4 := vb_len9 x.tc (by omega)
  have l5 := vb_len9 x.tk (by omega)
  obtain ⟨m1, e1⟩ : ∃ m, vb x.o.toNat ++ vb x.num.toNat = m := ⟨_, rfl⟩
  obtain ⟨m2, e2⟩ : ∃ m, m1 ++ vb x.c.toNat = m := ⟨_, rfl⟩
  obtain ⟨m3, e3⟩ : ∃ m, m2 ++ vb x.kind.toNat = m := ⟨_, rfl⟩
  obtain ⟨m4, e4⟩ : ∃ m, m3 ++ vb x.tc.toNat = m := ⟨_, rfl⟩
  obtain ⟨m5, e5⟩ : ∃ m, m4 ++ vb x.tk.toNat = m := ⟨_, rfl⟩
  have q1 := len_of e1
  have q2 := len_of e2
  have q3 := len_of e3
  have q4 := len_of e4
  have q5 := len_of e5
  have a1 := sadd' e1 (by omega)
  have a2 := sadd' e2 (by omega)
  have a3 := sadd' e3 (by omega)
  have a4 := sadd' e4 (by omega)
  have a5 := sadd' e5 (by omega)
  have E : Hid (m5 = vb x.o.toNat ++ vb x.num.toNat ++ vb x.c.toNat ++ vb x.kind.toNat ++ vb x.tc.toNat ++ vb x.tk.toNat ∧ m5.length ≤ 60) := ⟨by rw [e1, e2, e3, e4, e5], by omega⟩
  clear e1 e2 e3 e4 e5 q1 q2 q3 q4 q5 l0 l1 l2 l3 l4 l5
  have hV : ∀ (y : Int), y = x.o ∨ y = x.num ∨ y = x.c ∨ y = x.kind ∨ y = x.tc ∨ y = x.tk → ∀ W, w1.grownBy W none → Calls Tryz.prog 73 #[.int .i64 y] W fun e w' => e = .returned (str (vb y.toNat)) ∧ w1.grownBy w' none := fun y hy W hW => by
    refine (varintR y (by omega) (by omega) W).mono ?_
    rintro e w' ⟨rfl, hg⟩
    exact ⟨rfl, grown_trans hW hg⟩
  have HV := hide hV
  clear hV
  go_cut [3] (fun s3 wx => s3 = str m5 ∧ w1.grownBy wx none)
  case first =>
    go_region_held3 (fun w' => w'.cell? ⟨bb, 0, none⟩ = some (.int .i64 x.o) ∧ w'.cell? ⟨bb, 1, none⟩ = some (.int .i64 x.num) ∧ w'.cell? ⟨bb, 2, none⟩ = some (.int .i64 x.c) ∧ w'.cell? ⟨bb, 3, none⟩ = some (.int .i64 x.kind) ∧ w'.cell? ⟨bb, 4, none⟩ = some (.int .i64 x.tc) ∧ w'.cell? ⟨bb, 5, none⟩ = some (.int .i64 x.tk))
      (first | go_keep | exact ⟨cell_of_grown c0 hg, cell_of_grown c1 hg, cell_of_grown c2 hg, cell_of_grown c3 hg, cell_of_grown c4 hg, cell_of_grown c5 hg⟩)
      (first | (go_at_call 73; refine (HV.out _ (by simp) _ (by first | assumption | exact grown_drew (grown_refl _))).mono ?_; rintro e w' ⟨rfl, hg⟩))
    all_goals
      go_wp2_with fail
      go_meet
      exact ⟨rfl, by first | assumption | exact grown_drew (by assumption)⟩
  case rest =>
  obtain ⟨rfl, g2⟩ := hcut
  have hk2 := hk.grown (grown_trans g1 g2)
  have gA := grown_trans g1 g2
  have d3 := cell_of_grown c3 g2
  have d6 : wc.cell? ⟨bb, 6, none⟩ = some (.int .i64 x.r) := cell_of_grown (cell_blk k1 6) g2
  have d7 : wc.cell? ⟨bb, 7, none⟩ = some (.slice ak n ck) := cell_of_grown (cell_blk k1 7) g2
  clear c0 c1 c2 c3 c4 c5 a1 a2 a3 a4 a5 g1 g2 hk HV
  have hcq : ∀ y ∈ clk n x.q, 0 ≤ y ∧ y < 4611686018427387904 := fun y hy => by
    obtain ⟨i, hi, rfl⟩ := List.mem_map.1 hy
    have := b7 i (by have := List.mem_range.1 hi; omega)
    omega
  have lq := vbs_len (clk n x.q) (fun y hy => (hcq y hy).2)
  rw [clk_len] at lq
  have hN := fun (W : World) (hW : wc.grownBy W none) => numbersR (clk n x.q) hcq (by rw [clk_len]; omega) (.slice ak n ck) W (hk2.grown hW)
  obtain ⟨q, hq⟩ : ∃ q, vbs (clk n x.q) = q := ⟨_, rfl⟩
  have HB : Hid (x.bytes n = vbs x.nums ++ q) := by rw [← hq]; exact rfl
  rw [hq] at hN lq
  have HN := hide hN
  have HE := E
  have l6 := vb_len9 x.r (by omega)
  have m5l := HE.out.2
  clear hq hN E
  rcases b3 with hk0 | hk1
  · obtain ⟨m6, e6⟩ : ∃ m, m5 ++ vb x.r.toNat = m := ⟨_, rfl⟩
    obtain ⟨m7, e7⟩ : ∃ m, m6 ++ q = m := ⟨_, rfl⟩
    have q6 := len_of e6
    have q7 := len_of e7
    have a6 := sadd' e6 (by omega)
    have a7 := sadd' e7 (by omega)
    have hV := hide (varintR x.r b6.1 (by omega) wc)
    have fin : x.bytes n = m7 := by
      rw [HB.out, ← e7, ← e6, HE.out.1]
      simp [OpR.nums, hk0, vbs]
    have HF := hide fin
    rw [hk0] at d3
    clear fin e6 e7 q6 q7 m5l l6 lq hk0
    go_wp2_with fail
    refine hV.out.mono ?_
    rintro e w3 ⟨rfl, g3⟩
    have f7 := cell_of_grown d7 g3
    go_wp2_with fail
    refine (HN.out _ g3).mono ?_
    rintro e w4 ⟨rfl, g4⟩
    go_wp2_with fail
    go_ret
    rw [HF.out]
    exact ⟨rfl, grown_trans gA (grown_trans g3 g4)⟩
  · obtain ⟨m7, e7⟩ : ∃ m, m5 ++ q = m := ⟨_, rfl⟩
    have q7 := len_of e7
    have a7 := sadd' e7 (by omega)
    have fin : x.bytes n = m7 := by
      rw [HB.out, ← e7, HE.out.1]
      simp [OpR.nums, hk1, vbs]
    have HF := hide fin
    rw [hk1] at d3
    clear fin e7 q7 m5l l6 lq hk1
    go_wp2_with fail
    refine (HN.out _ (grown_refl _)).mono ?_
    rintro e w4 ⟨rfl, g4⟩
    go_wp2_with fail
    go_ret
    rw [HF.out]
    exact ⟨rfl, grown_trans gA g4⟩

end Go.Proofs.YtachmkhbbbmioaaGreat

namespace Go.Proofs.YtachmkhbbbmioaaGreat
open Go.RowKit Go.Shelf

theorem clk_mem {n : Nat} {q : Nat → Int} {y : Int} (h : y ∈ clk n q) : ∃ i, i < n ∧ y = q i := by
  obtain ⟨i, hi, rfl⟩ := List.mem_map.1 h
  exact ⟨i, List.mem_range.1 hi, rfl⟩

set_option maxRecDepth 100000 in
set_option maxHeartbeats 4000000 in
/-- A digest, as the document writes it. -/
theorem writeDigR (s : Int) (hs0 : 0 < s) (hs8 : s ≤ 8) (n : Nat) (h8 : n ≤ 8) (q : Nat → Int) (hq : ∀ i, i < n → 0 ≤ q i ∧ q i ≤ 100) (vk vo : Value) (w : World) (hk : RowAt 3 1 vk (intRow (clk n q)) w) :
    Calls Tryz.prog 42 #[.agg #[.int .i64 s, vk, vo]] w fun e w' => e = .returned (str (digest n s q)) ∧ w.grownBy w' none := by
  have hcq : ∀ y ∈ clk n q, 0 ≤ y ∧ y < 4611686018427387904 := fun y hy => by
    obtain ⟨i, hi, rfl⟩ := clk_mem hy
    have := hq i hi
    omega
  obtain ⟨ak, ck, rfl, -⟩ := hk.value
  rw [intRow_len, clk_len] at hk ⊢
  go_enter Tryz.func42, Tryz.ntmps42
  go_upto_region 2 with fail
  have g1 : w.grownBy (w.alloc (.cells #[.int .i64 s, .slice ak n ck, vo] 84)) none := grown_alloc (grown_refl _) _
  have k1 : (w.alloc (.cells #[.int .i64 s, .slice ak n ck, vo] 84)).heap[w.heap.size]? = some (.cells #[.int .i64 s, .slice ak n ck, vo] 84) := by rw [heap_alloc_at]; simp
  generalize (w.alloc (.cells #[.int .i64 s, .slice ak n ck, vo] 84)) = w1 at g1 k1 ⊢
  generalize w.heap.size = bb at k1 ⊢
  have c0 : w1.cell? ⟨bb, 0, none⟩ = some (.int .i64 s) := cell_blk k1 0
  have c1 : w1.cell? ⟨bb, 1, none⟩ = some (.slice ak n ck) := cell_blk k1 1
  have l0 := vb_len9 s (by omega)
  have lq := vbs_len (clk n q) (fun y hy => (hcq y hy).2)
  rw [clk_len] at lq
  obtain ⟨v0, hv0⟩ : ∃ m, vb s.toNat = m := ⟨_, rfl⟩
  obtain ⟨v1, hv1⟩ : ∃ m, vbs (clk n q) = m := ⟨_, rfl⟩
  obtain ⟨m1, e1⟩ : ∃ m, [68] ++ v0 = m := ⟨_, rfl⟩
  obtain ⟨m2, e2⟩ : ∃ m, m1 ++ v1 = m := ⟨_, rfl⟩
  rw [hv0] at l0
  rw [hv1] at lq
  have q1 := len_of e1
  have q2 := len_of e2
  simp only [List.length_cons, List.length_nil] at q1
  have a1 := sadd' e1 (by simp; omega)
  have a2 := sadd' e2 (by omega)
  have E : Hid (m2 = 68 :: vbs (s :: clk n q)) := by
    show m2 = 68 :: vbs (s :: clk n q)
    rw [← e2, ← e1, ← hv0, ← hv1]; rfl
  have L2 : m2.length ≤ 100 := by omega
  have hV : ∀ W, w1.grownBy W none → Calls Tryz.prog 73 #[.int .i64 s] W fun e w' => e = .returned (str v0) ∧ w1.grownBy w' none := fun W hW => by
    refine (varintR s (by omega) (by omega) W).mono ?_
    rintro e w' ⟨rfl, hg⟩
    exact ⟨by rw [hv0], grown_trans hW hg⟩
  have hN : ∀ W, w1.grownBy W none → Calls Tryz.prog 74 #[.slice ak n ck] W fun e w' => e = .returned (str v1) ∧ w1.grownBy w' none := fun W hW => by
    refine (numbersR (clk n q) hcq (by rw [clk_len]; omega) (.slice ak n ck) W (hk.grown (grown_trans g1 hW))).mono ?_
    rintro e w' ⟨rfl, hg⟩
    exact ⟨by rw [hv1], grown_trans hW hg⟩
  have HV := hide hV
  have HN := hide hN
  clear hV hN e1 e2 q1 q2 l0 lq hv0 hv1
  go_upto_region 3 with fail
  go_cut [3] (fun s3 wx => s3 = str m2 ∧ w1.grownBy wx none)
  case first =>
    go_region_held3 (fun w' => w'.cell? ⟨bb, 0, none⟩ = some (.int .i64 s) ∧ w'.cell? ⟨bb, 1, none⟩ = some (.slice ak n ck))
      (first | go_keep | exact ⟨cell_of_grown c0 hg, cell_of_grown c1 hg⟩)
      (first | (go_at_call 73; refine (HV.out _ (by first | assumption | exact grown_drew (grown_refl _))).mono ?_; rintro e w' ⟨rfl, hg⟩) | (go_at_call 74; refine (HN.out _ (by first | assumption | exact grown_drew (grown_refl _))).mono ?_; rintro e w' ⟨rfl, hg⟩))
    all_goals
      go_wp2_with fail
      go_meet
      exact ⟨rfl, by first | assumption | exact grown_drew (by assumption)⟩
  case rest =>
  obtain ⟨rfl, g2⟩ := hcut
  have hS := hide (sumR m2 (by omega) wc)
  obtain ⟨m3, e3⟩ : ∃ m, m2 ++ sum4 m2 = m := ⟨_, rfl⟩
  have a3 := sadd' e3 (by simp [sum4]; omega)
  have E3 : Hid (digest n s q = m3) := by
    show digest n s q = m3
    rw [← e3, E.out]; rfl
  generalize sum4 m2 = v4 at a3 hS
  clear e3 a1 a2
  go_wp2_with fail
  refine hS.out.mono ?_
  rintro e w3 ⟨rfl, g3⟩
  go_wp2_with fail
  go_ret
  rw [E3.out]
  exact ⟨rfl, grown_trans g1 (grown_trans g2 g3)⟩

/-- Operations in a list of the document's; each has a clock of its own. -/
def OpsRow (n : Nat) (v : Value) (l : List OpR) (w : World) : Prop :=
  ∃ rows, RowAt 88 8 v rows w ∧ rows.length = l.length ∧ ∀ (j : Nat) (x : OpR), l[j]? = some x → ∃ vk, rows[j]? = some (opCells x vk) ∧ RowAt 3 1 vk (intRow (clk n x.q)) w

theorem OpsRow.grown {n : Nat} {v : Value} {l : List OpR} {w w' : World} (h : OpsRow n v l w) (g : w.grownBy w' none) : OpsRow n v l w' := by
  obtain ⟨rows, h1, h2, h3⟩ := h
  exact ⟨rows, h1.grown g, h2, fun j x hj => by obtain ⟨vk, a, b⟩ := h3 j x hj; exact ⟨vk, a, b.grown g⟩⟩

theorem flat_take_op (n : Nat) (l : List OpR) (i : Nat) (x : OpR) (h : l[i]? = some x) : (l.take (i + 1)).flatMap (OpR.bytes n) = (l.take i).flatMap (OpR.bytes n) ++ x.bytes n := by
  rw [List.take_add_one, h, List.flatMap_append]; simp

theorem bytes_len {n : Nat} (h8 : n ≤ 8) {x : OpR} (hx : OpOk n x) : (x.bytes n).length ≤ 150 := by
  obtain ⟨b0, b1, b2, b3, b4, b5, b6, b7⟩ := hx
  have h1 := vbs_len x.nums (fun y hy => by
    unfold OpR.nums at hy
    rcases List.mem_append.1 hy with hy | hy
    · simp only [List.mem_cons, List.not_mem_nil, or_false] at hy
      omega
    · split at hy
      · simp only [List.mem_cons, List.not_mem_nil, or_false] at hy; omega
      · cases hy)
  have h2 := vbs_len (clk n x.q) (fun y hy => by
    obtain ⟨i, hi, rfl⟩ := clk_mem hy
    have := b7 i (by omega)
    omega)
  rw [clk_len] at h2
  have h3 : x.nums.length ≤ 7 := by
    unfold OpR.nums
    split <;> simp
  unfold OpR.bytes
  rw [List.length_append]
  omega

theorem flat_len_op {n : Nat} (h8 : n ≤ 8) (l : List OpR) (h : ∀ x ∈ l, OpOk n x) : (l.flatMap (OpR.bytes n)).length ≤ 150 * l.length := by
  induction l with
  | nil => simp
  | cons x l ih =>
    have h1 := bytes_len h8 (h x (by simp))
    have h2 := ih (fun y hy => h y (by simp [hy]))
    rw [List.flatMap_cons, List.length_append, List.length_cons]
    omega

set_option maxRecDepth 100000 in
set_option maxHeartbeats 4000000 in
/-- A batch, as the document writes it. -/
theorem writeBatR (n : Nat) (h8 : n ≤ 8) (l : List OpR) (hl : l.length ≤ 1000) (hok : ∀ x ∈ l, OpOk n x) (vk vo : Value) (w : World) (ho : OpsRow n vo l w) :
    Calls Tryz.prog 42 #[.agg #[.int .i64 0, vk, vo]] w fun e w' => e = .returned (str (batch n l)) ∧ w.grownBy w' none := by
  obtain ⟨rows, hR, hRl, hRx⟩ := ho
  obtain ⟨ao, co, rfl, -⟩ := hR.value
  rw [hRl] at hR ⊢
  go_enter Tryz.func42, Tryz.ntmps42
  go_upto_region 2 with fail
  have g1 : w.grownBy (w.alloc (.cells #[.int .i64 0, vk, .slice ao l.length co] 84)) none := grown_alloc (grown_refl _) _
  have k1 : (w.alloc (.cells #[.int .i64 0, vk, .slice ao l.length co] 84)).heap[w.heap.size]? = some (.cells #[.int .i64 0, vk, .slice ao l.length co] 84) := by rw [heap_alloc_at]; simp
  generalize (w.alloc (.cells #[.int .i64 0, vk, .slice ao l.length co] 84)) = w1 at g1 k1 ⊢
  generalize w.heap.size = bb at k1 ⊢
  have c0 : w1.cell? ⟨bb, 0, none⟩ = some (.int .i64 0) := cell_blk k1 0
  have c2 : w1.cell? ⟨bb, 2, none⟩ = some (.slice ao l.length co) := cell_blk k1 2
  have l0 := vb_len9 (l.length : Int) (by omega)
  obtain ⟨v0, hv0⟩ : ∃ m, vb (l.length : Int).toNat = m := ⟨_, rfl⟩
  obtain ⟨m1, e1⟩ : ∃ m, [66] ++ v0 = m := ⟨_, rfl⟩
  rw [hv0] at l0
  have q1 := len_of e1
  simp only [List.length_cons, List.length_nil] at q1
  have a1 := sadd' e1 (by simp; omega)
  have E1 : Hid (m1 = 66 :: vb l.length) := by
    show m1 = 66 :: vb l.length
    rw [← e1, ← hv0, Int.toNat_natCast]; rfl
  have hV : Calls Tryz.prog 73 #[.int .i64 l.length] w1 fun e w' => e = .returned (str v0) ∧ w1.grownBy w' none := by
    refine (varintR l.length (by omega) (by omega) w1).mono ?_
    rintro e w' ⟨rfl, hg⟩
    exact ⟨by rw [hv0], hg⟩
  have HV := hide hV
  have L1 : m1.length ≤ 20 := by omega
  clear hV hv0 e1 q1 l0
  go_wp2_with fail
  refine HV.out.mono ?_
  rintro e w2 ⟨rfl, g2⟩
  go_wp2_with fail
  clear a1 HV
  have hcell : ∀ W, w2.grownBy W none → W.cell? ⟨bb, 2, none⟩ = some (.slice ao l.length co) := fun W hW => cell_of_grown c2 (grown_trans g2 hW)
  have HC := hide hcell
  clear hcell
  go_loopg [3, 4] l.length (fun gk s3 s4 wr => ∃ (i : Nat) (m : List UInt8), s4 = .int .i64 i ∧ i ≤ l.length ∧ gk = l.length - i ∧ s3 = str m ∧ Hid (m = m1 ++ (l.take i).flatMap (OpR.bytes n)) ∧ w2.grownBy wr none)
  case atStart => exact ⟨0, m1, rfl, by omega, rfl, rfl, hide (by simp), grown_refl _⟩
  case round =>
    obtain ⟨i, m, rfl, hil, hgk, rfl, hm, hG⟩ := hrel
    have d2 := HC.out _ hG
    have hml := flat_len_op h8 (l.take i) (fun x hx => hok x (List.mem_of_mem_take hx))
    have htl : (l.take i).length ≤ 1000 := by simp; omega
    have hml2 : m.length ≤ 200000 := by rw [hm.out, List.length_append]; omega
    by_cases hlt : i < l.length
    · have hli : (i : Int) < (l.length : Int) := by omega
      obtain ⟨x, hx⟩ : ∃ x, l[i]? = some x := ⟨l[i], by simp [hlt]⟩
      have hxo := hok x (List.mem_of_getElem? hx)
      obtain ⟨vx, hrow, hclk⟩ := hRx i x hx
      obtain ⟨gr, cr, cur, hvr, -, hbr, hcr⟩ := (hR.grown (grown_trans g1 (grown_trans g2 hG))).cell hrow
      rw [hRl] at hvr
      cases hvr
      have r0 : wr.cell? ⟨gr, i * 8, none⟩ = some (.int .i64 x.o) := (cell_blk hbr _).trans (hcr 0 _ rfl)
      have r1 : wr.cell? ⟨gr, i * 8 + 1, none⟩ = some (.int .i64 x.num) := (cell_blk hbr _).trans (hcr 1 _ rfl)
      have r2 : wr.cell? ⟨gr, i * 8 + 2, none⟩ = some (.int .i64 x.c) := (cell_blk hbr _).trans (hcr 2 _ rfl)
      have r3 : wr.cell? ⟨gr, i * 8 + 3, none⟩ = some (.int .i64 x.kind) := (cell_blk hbr _).trans (hcr 3 _ rfl)
      have r4 : wr.cell? ⟨gr, i * 8 + 4, none⟩ = some (.int .i64 x.tc) := (cell_blk hbr _).trans (hcr 4 _ rfl)
      have r5 : wr.cell? ⟨gr, i * 8 + 5, none⟩ = some (.int .i64 x.tk) := (cell_blk hbr _).trans (hcr 5 _ rfl)
      have r6 : wr.cell? ⟨gr, i * 8 + 6, none⟩ = some (.int .i64 x.r) := (cell_blk hbr _).trans (hcr 6 _ rfl)
      have r7 : wr.cell? ⟨gr, i * 8 + 7, none⟩ = some vx := (cell_blk hbr _).trans (hcr 7 _ rfl)
      have HW := hide (writeOpR x n h8 hxo vx wr (hclk.grown (grown_trans g1 (grown_trans g2 hG))))
      obtain ⟨y, hy⟩ : ∃ y, x.bytes n = y := ⟨_, rfl⟩
      obtain ⟨m', em⟩ : ∃ k, m ++ y = k := ⟨_, rfl⟩
      have hbl := bytes_len h8 hxo
      rw [hy] at HW hbl
      have a2 := sadd' em (by omega)
      have EM : Hid (m' = m1 ++ (l.take (i + 1)).flatMap (OpR.bytes n)) := by
        show m' = m1 ++ (l.take (i + 1)).flatMap (OpR.bytes n)
        rw [flat_take_op n l i x hx, ← em, hm.out, hy, List.append_assoc]
      clear hy em hbl hrow hcr hml htl hml2 hclk
      go_wp2_with fail
      refine HW.out.mono ?_
      rintro e w3 ⟨rfl, g3⟩
      go_wp2_with fail
      go_roundg (l.length - (i + 1))
      case measure => omega
      case rel => exact ⟨i + 1, m', by go_num, by omega, rfl, rfl, EM, grown_trans hG g3⟩
    · obtain rfl : i = l.length := by omega
      rw [List.take_length] at hm
      have hS := hide (sumR m (by omega) wr)
      obtain ⟨m3, e3⟩ : ∃ k, m ++ sum4 m = k := ⟨_, rfl⟩
      have a3 := sadd' e3 (by simp [sum4]; omega)
      have E3 : Hid (batch n l = m3) := by
        show batch n l = m3
        have e4 : 66 :: (vb l.length ++ l.flatMap (OpR.bytes n)) = m := by rw [hm.out, E1.out]; rfl
        unfold batch
        rw [e4, ← e3]; rfl
      generalize sum4 m = v4 at a3 hS
      clear e3
      go_wp2_with fail
      refine hS.out.mono ?_
      rintro e w3 ⟨rfl, g3⟩
      go_wp2_with fail
      go_ret
      rw [E3.out]
      exact ⟨rfl, grown_trans g1 (grown_trans g2 (grown_trans hG g3))⟩

end Go.Proofs.YtachmkhbbbmioaaGreat

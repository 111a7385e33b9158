import Derived.Test.YtachmkhbbbmioaaGreatMap
import Derived.Laws.Concat
import Derived.Test.YtachmkhbbbmioaaGreatLineQX
namespace Go.Proofs.YtachmkhbbbmioaaGreat
open Go.RowKit

theorem hide {p : Prop} (h : p) : Hid p := h

/-- The bytes of a number. -/
def vb (n : Nat) : List UInt8 := if n < 128 then [UInt8.ofNat n] else UInt8.ofNat (n % 128 + 128) :: vb (n / 128)
termination_by n
decreasing_by omega

theorem vb_small {n : Nat} (h : n < 128) : vb n = [UInt8.ofNat n] := by rw [vb, if_pos h]
theorem vb_great {n : Nat} (h : 128 ≤ n) : vb n = UInt8.ofNat (n % 128 + 128) :: vb (n / 128) := by rw [vb, if_neg (by omega)]

theorem vb_len : ∀ (k n : Nat), n < 128 ^ (k + 1) → (vb n).length ≤ k + 1
  | 0, n, h => by rw [vb_small (by omega)]; simp
  | k + 1, n, h => by
    by_cases q : n < 128
    · rw [vb_small q]; simp
    · rw [vb_great (by omega), List.length_cons]
      have := vb_len k (n / 128) (by rw [Nat.div_lt_iff_lt_mul (by omega)]; rw [Nat.pow_succ] at h; omega)
      omega

theorem vb_pos (n : Nat) : 0 < (vb n).length := by
  by_cases q : n < 128
  · rw [vb_small q]; simp
  · rw [vb_great (by omega)]; simp

/-- The bytes of numbers, one behind the other. -/
def vbs : List Int → List UInt8
  | [] => []
  | x :: l => vb x.toNat ++ vbs l

theorem vbs_append (a b : List Int) : vbs (a ++ b) = vbs a ++ vbs b := by
  induction a with
  | nil => rfl
  | cons x a ih => simp [vbs, ih]

theorem vbs_take (l : List Int) (i : Nat) (x : Int) (h : l[i]? = some x) : vbs (l.take (i + 1)) = vbs (l.take i) ++ vb x.toNat := by
  rw [List.take_add_one, h, vbs_append]; simp [vbs]

/-- One step of the sum. -/
def fstep (h b : Int) : Int := IntKind.u32.wrap (bits .xor .u32 h b * 16777619)
def fsum (l : List UInt8) : Int := l.foldl (fun h b => fstep h b.toNat) 2166136261

theorem fstep_nn (h b : Int) : 0 ≤ fstep h b ∧ fstep h b < 4294967296 := by
  unfold fstep
  rw [IntKind.wrap_u32]
  omega

theorem fsum_nn (l : List UInt8) : 0 ≤ fsum l ∧ fsum l < 4294967296 := by
  have : ∀ (l : List UInt8) (h : Int), 0 ≤ h ∧ h < 4294967296 → 0 ≤ l.foldl (fun h b => fstep h b.toNat) h ∧ l.foldl (fun h b => fstep h b.toNat) h < 4294967296 := by
    intro l
    induction l with
    | nil => intro h hh; exact hh
    | cons b l ih => intro h _; exact ih _ (fstep_nn _ _)
  exact this l _ (by omega)

theorem fsum_step (l : List UInt8) (b : UInt8) : fsum (l ++ [b]) = fstep (fsum l) b.toNat := by simp [fsum, List.foldl_append]

theorem fsum_take (l : List UInt8) (i : Nat) (b : UInt8) (h : l[i]? = some b) : fsum (l.take (i + 1)) = fstep (fsum (l.take i)) b.toNat := by
  rw [List.take_add_one, h]; exact fsum_step _ _

/-- A number's lowest byte. -/
def lob (x : Int) : UInt8 := UInt8.ofNat (x % 256).toNat

theorem lob_nat (x : Int) : ((lob x).toNat : Int) = x % 256 := by
  have h1 : 0 ≤ x % 256 := by omega
  have h2 : x % 256 < 256 := by omega
  have : (lob x).toNat = (x % 256).toNat := by simp [lob]; omega
  omega

/-- The four bytes of the sum. -/
def sum4 (l : List UInt8) : List UInt8 := [lob (fsum l / 16777216), lob (fsum l / 65536), lob (fsum l / 256), lob (fsum l)]
def sealB (l : List UInt8) : List UInt8 := l ++ sum4 l

theorem seal_len (l : List UInt8) : (sealB l).length = l.length + 4 := by simp [sealB, sum4]

/-- Bytes as rows of cells. -/
def byRow (l : List UInt8) : List (List Value) := l.map fun b => [.int .u8 (b.toNat : Int)]
theorem byRow_len (l : List UInt8) : (byRow l).length = l.length := by simp [byRow]
theorem byRow_append (a b : List UInt8) : byRow (a ++ b) = byRow a ++ byRow b := by simp [byRow]
theorem byRow_flat (l : List UInt8) : (byRow l).flatten = l.map fun b => Value.int .u8 (b.toNat : Int) := by
  unfold byRow
  induction l with
  | nil => rfl
  | cons b l ih => rw [List.map_cons, List.flatten_cons, ih]; rfl
theorem byRow_one (l : List UInt8) : ∀ y ∈ byRow l, y.length = 1 := by
  intro y hy
  obtain ⟨x, -, rfl⟩ := List.mem_map.1 hy
  rfl
theorem byRow_cell (l : List UInt8) : ∀ y ∈ byRow l, ∀ c ∈ y, c.oneCell' = true := by
  intro y hy c hc
  obtain ⟨x, -, rfl⟩ := List.mem_map.1 hy
  simp only [List.mem_cons, List.not_mem_nil, or_false] at hc
  rw [hc]; rfl
theorem byRow_at (l : List UInt8) {i : Nat} {b : UInt8} (h : l[i]? = some b) : (byRow l)[i]? = some [.int .u8 (b.toNat : Int)] := by simp [byRow, h]

/-- A string of bytes. -/
abbrev str (l : List UInt8) : Value := .string ⟨l.toArray⟩

/-- An operation. -/
structure OpR where
  o : Int
  num : Int
  c : Int
  kind : Int
  tc : Int
  tk : Int
  r : Int
  q : Nat → Int

/-- The cells of an Operation. -/
def opArr (o num c kind tc tk r : Int) (q : Nat → Int) : Array Value :=
  #[.int .i64 o, .int .i64 num, .int .i64 c, .int .i64 kind, .int .i64 tc, .int .i64 tk, .int .i32 r, .int .i64 (q 0), .int .i64 (q 1), .int .i64 (q 2), .int .i64 (q 3), .int .i64 (q 4), .int .i64 (q 5), .int .i64 (q 6), .int .i64 (q 7)]
def OpR.arr (x : OpR) : Array Value := opArr x.o x.num x.c x.kind x.tc x.tk x.r x.q

def clk (n : Nat) (q : Nat → Int) : List Int := (List.range n).map q
def OpR.nums (x : OpR) : List Int := [x.o, x.num, x.c, x.kind, x.tc, x.tk] ++ (if x.kind = 0 then [x.r] else [])
def OpR.bytes (n : Nat) (x : OpR) : List UInt8 := vbs x.nums ++ vbs (clk n x.q)

/-- An operation within its bounds. -/
structure OpOk (n : Nat) (x : OpR) : Prop where
  o : 1 ≤ x.o ∧ x.o ≤ n
  num : 1 ≤ x.num ∧ x.num ≤ 100
  c : 1 ≤ x.c ∧ x.c ≤ 1099511627776
  kind : x.kind = 0 ∨ x.kind = 1
  tc : 0 ≤ x.tc ∧ x.tc ≤ 1099511627776
  tk : 0 ≤ x.tk ∧ x.tk ≤ 8
  r : 0 ≤ x.r ∧ x.r ≤ 1114111
  q : ∀ i, i < 8 → 0 ≤ x.q i ∧ x.q i ≤ 100

def digest (n : Nat) (s : Int) (q : Nat → Int) : List UInt8 := sealB (68 :: vbs (s :: clk n q))
def batch (n : Nat) (l : List OpR) : List UInt8 := sealB (66 :: (vb l.length ++ l.flatMap (OpR.bytes n)))

/-- As many in each as there is room for; what has been gathered is at the head. -/
def packs (n : Nat) (some : List OpR) : List OpR → List (List OpR)
  | [] => if some.length = 0 then [] else [some]
  | x :: l => if 114 < (some.flatMap (OpR.bytes n)).length + (x.bytes n).length then some :: packs n [x] l else packs n (some ++ [x]) l

def answers (n : Nat) (l : List OpR) : List (List UInt8) := (packs n [] l).map (batch n)

theorem clk_len (n : Nat) (q : Nat → Int) : (clk n q).length = n := by simp [clk]
theorem clk_at {n i : Nat} (q : Nat → Int) (h : i < n) : (clk n q)[i]? = some (q i) := by simp [clk, h]

end Go.Proofs.YtachmkhbbbmioaaGreat

namespace Go.Proofs.YtachmkhbbbmioaaGreat
open Go.RowKit Go.Shelf

/-- Nothing that lay in w has turned, but for the blocks named. -/
structure Fr (bs : List Nat) (w w' : World) : Prop where
  os : w'.os = w.os
  tape : w'.tape = w.tape
  output : w'.output = w.output
  size : w.heap.size ≤ w'.heap.size
  block : ∀ k, k < w.heap.size → k ∉ bs → w'.heap[k]? = w.heap[k]?

theorem Fr.refl (bs : List Nat) (w : World) : Fr bs w w := ⟨rfl, rfl, rfl, Nat.le_refl _, fun _ _ _ => rfl⟩
theorem Fr.trans {bs : List Nat} {a b c : World} (h : Fr bs a b) (k : Fr bs b c) : Fr bs a c :=
  ⟨k.os.trans h.os, k.tape.trans h.tape, k.output.trans h.output, Nat.le_trans h.size k.size, fun i hi hn => (k.block i (Nat.lt_of_lt_of_le hi h.size) hn).trans (h.block i hi hn)⟩
theorem Fr.mono {bs cs : List Nat} {a b : World} (h : Fr bs a b) (hs : ∀ x ∈ bs, x ∈ cs) : Fr cs a b := ⟨h.os, h.tape, h.output, h.size, fun i hi hn => h.block i hi (fun q => hn (hs i q))⟩
theorem Fr.drew {bs : List Nat} {a w : World} (h : Fr bs a w) : Fr bs a w.drew := ⟨h.os, h.tape, h.output, h.size, h.block⟩
theorem Fr.alloc {bs : List Nat} {a w : World} (h : Fr bs a w) (o : Obj) : Fr bs a (w.alloc o) :=
  ⟨h.os, h.tape, h.output, by have := h.size; simp; omega, fun i hi hn => (Below.heap_alloc _ _ _ (by have := h.size; omega)).trans (h.block i hi hn)⟩
theorem Fr.setCell {bs : List Nat} {a w : World} (h : Fr bs a w) {p : Addr} (hp : p.block ∈ bs ∨ a.heap.size ≤ p.block) (v : Value) : Fr bs a (w.setCell p v) :=
  ⟨h.os, h.tape, h.output, by have := h.size; simpa [World.setCell] using this, fun i hi hn => by
    rw [Below.heap_setCell _ _ _ _ (fun q => by rcases hp with hp | hp; exact hn (q ▸ hp); omega)]; exact h.block i hi hn⟩
theorem Fr.grown {bs : List Nat} {a w w' : World} {row : Option Nat} (h : Fr bs a w) (g : w.grownBy w' row) (hr : ∀ k, row = some k → k ∈ bs ∨ a.heap.size ≤ k) : Fr bs a w' :=
  ⟨g.os.trans h.os, g.tape.trans h.tape, g.output.trans h.output, Nat.le_trans h.size g.size, fun i hi hn =>
    (g.block i (Nat.lt_of_lt_of_le hi h.size) (fun q => by rcases hr i q.symm with q | q; exact hn q; omega)).trans (h.block i hi hn)⟩
theorem Fr.below {bs : List Nat} {a w w' : World} {B : Nat} (h : Fr bs a w) (g : Below B w w') (hB : a.heap.size ≤ B) : Fr bs a w' :=
  ⟨g.os.trans h.os, g.tape.trans h.tape, g.output.trans h.output, Nat.le_trans h.size g.size, fun i hi hn => (g.block i (by omega)).trans (h.block i hi hn)⟩
theorem Fr.toBelow {bs : List Nat} {w w' : World} (h : Fr bs w w') {B : Nat} (hB : B ≤ w.heap.size) (hb : ∀ x ∈ bs, B ≤ x) : Below B w w' :=
  ⟨h.os, h.tape, h.output, h.size, fun k hk => h.block k (by omega) (fun q => by have := hb k q; omega)⟩
theorem Fr.blk {bs : List Nat} {w w' : World} (h : Fr bs w w') {k : Nat} {o : Obj} (hk : w.heap[k]? = some o) (hn : k ∉ bs) : w'.heap[k]? = some o := (h.block k (lt_of_heap hk) hn).trans hk
theorem Fr.ents {bs : List Nat} {w w' : World} (h : Fr bs w w') {k : Nat} {l : List Ent} (hk : entsAt w k l) (hn : k ∉ bs) : entsAt w' k l := hk.of_block (h.block k hk.lt hn)

/-- The cells of a State. -/
def stArr (n s : Int) (cl : Nat → Int) (g : Int) (ma mp lb : Nat) : Array Value :=
  #[.int .i64 n, .int .i64 s, .int .i64 (cl 0), .int .i64 (cl 1), .int .i64 (cl 2), .int .i64 (cl 3), .int .i64 (cl 4), .int .i64 (cl 5), .int .i64 (cl 6), .int .i64 (cl 7), .int .i64 g, .map (some ma), .map (some mp), .pointer (some ⟨lb, 0, none⟩)]

theorem stArr_clock (n s : Int) (cl : Nat → Int) (g : Int) (ma mp lb : Nat) : ∀ i, i < 8 → (stArr n s cl g ma mp lb)[2 + i]? = some (.int .i64 (cl i))
  | 0, _ => rfl | 1, _ => rfl | 2, _ => rfl | 3, _ => rfl | 4, _ => rfl | 5, _ => rfl | 6, _ => rfl | 7, _ => rfl
  | _ + 8, h => by omega

def bump (cl : Nat → Int) (i : Nat) : Nat → Int := fun j => if j = i then cl j + 1 else cl j

theorem stArr_bump (n s : Int) (cl : Nat → Int) (g : Int) (ma mp lb : Nat) : ∀ i, i < 8 → (stArr n s cl g ma mp lb).setIfInBounds (2 + i) (.int .i64 (cl i + 1)) = stArr n s (bump cl i) g ma mp lb
  | 0, _ => rfl | 1, _ => rfl | 2, _ => rfl | 3, _ => rfl | 4, _ => rfl | 5, _ => rfl | 6, _ => rfl | 7, _ => rfl
  | _ + 8, h => by omega

theorem stArr_great (n s : Int) (cl : Nat → Int) (g g' : Int) (ma mp lb : Nat) : (stArr n s cl g ma mp lb).setIfInBounds 10 (.int .i64 g') = stArr n s cl g' ma mp lb := rfl

/-- What a copy knows. -/
structure CS where
  n : Nat
  s : Nat
  cl : Nat → Int
  g : Int
  L : List El
  ops : List OpR
  wt : List OpR

/-- What was applied, by origin and number. -/
def AppIs (E : List Ent) (ops : List OpR) : Prop := ∀ o num, look o num E = (ops.find? (fun x => x.o == o && x.num == num)).map (fun x => Value.agg x.arr)

theorem app_put {E : List Ent} {ops : List OpR} {x : OpR} {n : Nat} (h : AppIs E ops) : AppIs (put x.o x.num (.agg x.arr) n E) (x :: ops) := by
  intro o num
  rw [look_put, h, List.find?_cons]
  by_cases q : o = x.o ∧ num = x.num
  · obtain ⟨rfl, rfl⟩ := q
    simp
  · rw [if_neg q]
    have : (x.o == o && x.num == num) = false := by
      simp only [Bool.and_eq_false_iff, beq_eq_false_iff_ne]
      by_cases q1 : x.o = o
      · exact .inr (fun q2 => q ⟨q1.symm, q2.symm⟩)
      · exact .inl q1
    rw [this]

/-- What waits: the names are apart, so that the map has as many entries as the list. -/
structure PenIs (E : List Ent) (wt : List OpR) : Prop where
  app : AppIs E wt
  len : E.length = wt.length
  apart : E.Pairwise (fun x y => ¬ (x.c = y.c ∧ x.k = y.k))

theorem penIs_nil : PenIs [] [] := ⟨fun _ _ => rfl, rfl, List.Pairwise.nil⟩

/-- The operation that the copy makes next. -/
def opIns (S : CS) (tc tk r : Int) : OpR := ⟨S.s, S.cl (S.s - 1) + 1, S.g + 1, 0, tc, tk, r, S.cl⟩
def opDel (S : CS) (tc tk : Int) : OpR := ⟨S.s, S.cl (S.s - 1) + 1, S.g + 1, 1, tc, tk, 0, S.cl⟩

/-- The state lies at block sb; its maps at ma (applied), mp (pending), mb (elements); its line at lb. -/
structure StAt (sb ma mp lb mb : Nat) (S : CS) (w : World) : Prop where
  st : w.heap[sb]? = some (.cells (stArr S.n S.s S.cl S.g ma mp lb) 138)
  app : ∃ E, entsAt w ma E ∧ AppIs E S.ops
  pen : ∃ E, entsAt w mp E ∧ PenIs E S.wt
  ln : ∃ E, Ln lb mb E w ∧ LineIs E S.L
  ne1 : ma ≠ mp
  ne2 : ma ≠ mb
  ne3 : mp ≠ mb

/-- The blocks of a state that writing turns. -/
abbrev own3 (sb ma mb : Nat) : List Nat := [sb, ma, mb]

theorem StAt.kept {sb ma mp lb mb : Nat} {S : CS} {w w' : World} (h : StAt sb ma mp lb mb S w) (e : ∀ k, k = sb ∨ k = ma ∨ k = mp ∨ k = lb ∨ k = mb → w'.heap[k]? = w.heap[k]?) : StAt sb ma mp lb mb S w' := by
  obtain ⟨E, h1, h2⟩ := h.ln
  obtain ⟨EA, h3, h4⟩ := h.app
  obtain ⟨EP, h5, h6⟩ := h.pen
  exact ⟨(e sb (by simp)).trans h.st, ⟨EA, h3.of_block (e ma (by simp)), h4⟩, ⟨EP, h5.of_block (e mp (by simp)), h6⟩, ⟨E, ⟨(e lb (by simp)).trans h1.line, h1.ents.of_block (e mb (by simp))⟩, h2⟩, h.ne1, h.ne2, h.ne3⟩

theorem StAt.lts {sb ma mp lb mb : Nat} {S : CS} {w : World} (h : StAt sb ma mp lb mb S w) : ∀ k, k = sb ∨ k = ma ∨ k = mp ∨ k = lb ∨ k = mb → k < w.heap.size := by
  obtain ⟨E, h1, h2⟩ := h.ln
  obtain ⟨EA, h3, h4⟩ := h.app
  obtain ⟨EP, h5, h6⟩ := h.pen
  rintro k (rfl | rfl | rfl | rfl | rfl)
  · exact lt_of_heap h.st
  · exact h3.lt
  · exact h5.lt
  · exact lt_of_heap h1.line
  · exact h1.ents.lt

theorem StAt.below {sb ma mp lb mb : Nat} {S : CS} {w w' : World} (h : StAt sb ma mp lb mb S w) (g : Below w.heap.size w w') : StAt sb ma mp lb mb S w' := h.kept (fun k hk => g.block k (h.lts k hk))
theorem StAt.grown {sb ma mp lb mb : Nat} {S : CS} {w w' : World} (h : StAt sb ma mp lb mb S w) (g : w.grownBy w' none) : StAt sb ma mp lb mb S w' := h.kept (fun k hk => g.block k (h.lts k hk) (by simp))

end Go.Proofs.YtachmkhbbbmioaaGreat

import Derived.Test.YtachmkhbbbmioaaGreatClk
import Derived.Test.YtachmkhbbbmioaaGreatByt
namespace Go.Proofs.YtachmkhbbbmioaaGreat
open Go.RowKit Go.Shelf

/-- Nothing that lay in w has turned, but for the blocks named. -/
structure Fr (bs : List Nat) (w w' : World) : Prop where
  os : w'.os = w.os
  tape : w'.tape = w.tape
  output : w'.output = w.output
  size : w.heap.size ≤ w'.heap.size
  block : ∀ k, k < w.heap.size → k ∉ bs → w'.heap[k]? = w.heap[k]?

theorem Fr.refl (bs : List Nat) (w : World) : Fr bs w w := ⟨rfl, rfl, rfl, Nat.le_refl _, fun _ _ _ => rfl⟩
theorem Fr.trans {bs : List Nat} {a b c : World} (h : Fr bs a b) (k : Fr bs b c) : Fr bs a c :=
  ⟨k.os.trans h.os, k.tape.trans h.tape, k.output.trans h.output, Nat.le_trans h.size k.size, fun i hi hn => (k.block i (Nat.lt_of_lt_of_le hi h.size) hn).trans (h.block i hi hn)⟩
theorem Fr.mono {bs cs : List Nat} {a b : World} (h : Fr bs a b) (hs : ∀ x ∈ bs, x ∈ cs) : Fr cs a b := ⟨h.os, h.tape, h.output, h.size, fun i hi hn => h.block i hi (fun q => hn (hs i q))⟩
theorem Fr.drew {bs : List Nat} {a w : World} (h : Fr bs a w) : Fr bs a w.drew := ⟨h.os, h.tape, h.output, h.size, h.block⟩
theorem Fr.alloc {bs : List Nat} {a w : World} (h : Fr bs a w) (o : Obj) : Fr bs a (w.alloc o) :=
  ⟨h.os, h.tape, h.output, by have := h.size; simp; omega, fun i hi hn => (Below.heap_alloc _ _ _ (by have := h.size; omega)).trans (h.block i hi hn)⟩
theorem Fr.setCell {bs : List Nat} {a w : World} (h : Fr bs a w) {p : Addr} (hp : p.block ∈ bs ∨ a.heap.size ≤ p.block) (v : Value) : Fr bs a (w.setCell p v) :=
  ⟨h.os, h.tape, h.output, by have := h.size; simpa [World.setCell] using this, fun i hi hn => by
    rw [Below.heap_setCell _ _ _ _ (fun q => by rcases hp with hp | hp; exact hn (q ▸ hp); omega)]; exact h.block i hi hn⟩
theorem Fr.grown {bs : List Nat} {a w w' : World} {row : Option Nat} (h : Fr bs a w) (g : w.grownBy w' row) (hr : ∀ k, row = some k → k ∈ bs ∨ a.heap.size ≤ k) : Fr bs a w' :=
  ⟨g.os.trans h.os, g.tape.trans h.tape, g.output.trans h.output, Nat.le_trans h.size g.size, fun i hi hn =>
    (g.block i (Nat.lt_of_lt_of_le hi h.size) (fun q => by rcases hr i q.symm with q | q; exact hn q; omega)).trans (h.block i hi hn)⟩
theorem Fr.below {bs : List Nat} {a w w' : World} {B : Nat} (h : Fr bs a w) (g : Below B w w') (hB : a.heap.size ≤ B) : Fr bs a w' :=
  ⟨g.os.trans h.os, g.tape.trans h.tape, g.output.trans h.output, Nat.le_trans h.size g.size, fun i hi hn => (g.block i (by omega)).trans (h.block i hi hn)⟩
theorem Fr.toBelow {bs : List Nat} {w w' : World} (h : Fr bs w w') {B : Nat} (hB : B ≤ w.heap.size) (hb : ∀ x ∈ bs, B ≤ x) : Below B w w' :=
  ⟨h.os, h.tape, h.output, h.size, fun k hk => h.block k (by omega) (fun q => by have := hb k q; omega)⟩
theorem Fr.blk {bs : List Nat} {w w' : World} (h : Fr bs w w') {k : Nat} {o : Obj} (hk : w.heap[k]? = some o) (hn : k ∉ bs) : w'.heap[k]? = some o := (h.block k (lt_of_heap hk) hn).trans hk
theorem Fr.ents {bs : List Nat} {w w' : World} (h : Fr bs w w') {k : Nat} {l : List Ent} (hk : entsAt w k l) (hn : k ∉ bs) : entsAt w' k l := hk.of_block (h.block k hk.lt hn)

/-- The cells of a State. -/
def stArr (n s : Int) (cl : Nat → Int) (g : Int) (ma mp lb : Nat) : Array Value :=
  #[.int .i64 n, .int .i64 s, .int .i64 (cl 0), .int .i64 (cl 1), .int .i64 (cl 2), .int .i64 (cl 3), .int .i64 (cl 4), .int .i64 (cl 5), .int .i64 (cl 6), .int .i64 (cl 7), .int .i64 g, .map (some ma), .map (some mp), .pointer (some ⟨lb, 0, none⟩)]

theorem stArr_clock (n s : Int) (cl : Nat → Int) (g : Int) (ma mp lb : Nat) : ∀ i, i < 8 → (stArr n s cl g ma mp lb)[2 + i]? = some (.int .i64 (cl i))
  | 0, _ => rfl | 1, _ => rfl | 2, _ => rfl | 3, _ => rfl | 4, _ => rfl | 5, _ => rfl | 6, _ => rfl | 7, _ => rfl
  | _ + 8, h => by omega

def bump (cl : Nat → Int) (i : Nat) : Nat → Int := fun j => if j = i then cl j + 1 else cl j

theorem stArr_bump (n s : Int) (cl : Nat → Int) (g : Int) (ma mp lb : Nat) : ∀ i, i < 8 → (stArr n s cl g ma mp lb).setIfInBounds (2 + i) (.int .i64 (cl i + 1)) = stArr n s (bump cl i) g ma mp lb
  | 0, _ => rfl | 1, _ => rfl | 2, _ => rfl | 3, _ => rfl | 4, _ => rfl | 5, _ => rfl | 6, _ => rfl | 7, _ => rfl
  | _ + 8, h => by omega

theorem stArr_great (n s : Int) (cl : Nat → Int) (g g' : Int) (ma mp lb : Nat) : (stArr n s cl g ma mp lb).setIfInBounds 10 (.int .i64 g') = stArr n s cl g' ma mp lb := rfl

/-- What a copy knows. -/
structure CS where
  n : Nat
  s : Nat
  cl : Nat → Int
  g : Int
  L : List El
  ops : List OpR
  wt : List OpR

/-- What was applied, by origin and number. -/
def AppIs (E : List Ent) (ops : List OpR) : Prop := ∀ o num, look o num E = (ops.find? (fun x => x.o == o && x.num == num)).map (fun x => Value.agg x.arr)

theorem app_put {E : List Ent} {ops : List OpR} {x : OpR} {n : Nat} (h : AppIs E ops) : AppIs (put x.o x.num (.agg x.arr) n E) (x :: ops) := by
  intro o num
  rw [look_put, h, List.find?_cons]
  by_cases q : o = x.o ∧ num = x.num
  · obtain ⟨rfl, rfl⟩ := q
    simp
  · rw [if_neg q]
    have : (x.o == o && x.num == num) = false := by
      simp only [Bool.and_eq_false_iff, beq_eq_false_iff_ne]
      by_cases q1 : x.o = o
      · exact .inr (fun q2 => q ⟨q1.symm, q2.symm⟩)
      · exact .inl q1
    rw [this]

/-- What waits: the names are apart, so that the map has as many entries as the list. -/
structure PenIs (E : List Ent) (wt : List OpR) : Prop where
  app : AppIs E wt
  len : E.length = wt.length
  apart : E.Pairwise (fun x y => ¬ (x.c = y.c ∧ x.k = y.k))

theorem penIs_nil : PenIs [] [] := ⟨fun _ _ => rfl, rfl, List.Pairwise.nil⟩

/-- The operation that the copy makes next. -/
def opIns (S : CS) (tc tk r : Int) : OpR := ⟨S.s, S.cl (S.s - 1) + 1, S.g + 1, 0, tc, tk, r, S.cl⟩
def opDel (S : CS) (tc tk : Int) : OpR := ⟨S.s, S.cl (S.s - 1) + 1, S.g + 1, 1, tc, tk, 0, S.cl⟩

/-- The state lies at block sb; its maps at ma (applied), mp (pending), mb (elements); its line at lb. -/
structure StAt (sb ma mp lb mb : Nat) (S : CS) (w : World) : Prop where
  st : w.heap[sb]? = some (.cells (stArr S.n S.s S.cl S.g ma mp lb) 138)
  app : ∃ E, entsAt w ma E ∧ AppIs E S.ops
  pen : ∃ E, entsAt w mp E ∧ PenIs E S.wt
  ln : ∃ E, Ln lb mb E w ∧ LineIs E S.L
  ne1 : ma ≠ mp
  ne2 : ma ≠ mb
  ne3 : mp ≠ mb

/-- The blocks of a state that writing turns. -/
abbrev own3 (sb ma mb : Nat) : List Nat := [sb, ma, mb]

theorem StAt.kept {sb ma mp lb mb : Nat} {S : CS} {w w' : World} (h : StAt sb ma mp lb mb S w) (e : ∀ k, k = sb ∨ k = ma ∨ k = mp ∨ k = lb ∨ k = mb → w'.heap[k]? = w.heap[k]?) : StAt sb ma mp lb mb S w' := by
  obtain ⟨E, h1, h2⟩ := h.ln
  obtain ⟨EA, h3, h4⟩ := h.app
  obtain ⟨EP, h5, h6⟩ := h.pen
  exact ⟨(e sb (by simp)).trans h.st, ⟨EA, h3.of_block (e ma (by simp)), h4⟩, ⟨EP, h5.of_block (e mp (by simp)), h6⟩, ⟨E, ⟨(e lb (by simp)).trans h1.line, h1.ents.of_block (e mb (by simp))⟩, h2⟩, h.ne1, h.ne2, h.ne3⟩

theorem StAt.lts {sb ma mp lb mb : Nat} {S : CS} {w : World} (h : StAt sb ma mp lb mb S w) : ∀ k, k = sb ∨ k = ma ∨ k = mp ∨ k = lb ∨ k = mb → k < w.heap.size := by
  obtain ⟨E, h1, h2⟩ := h.ln
  obtain ⟨EA, h3, h4⟩ := h.app
  obtain ⟨EP, h5, h6⟩ := h.pen
  rintro k (rfl | rfl | rfl | rfl | rfl)
  · exact lt_of_heap h.st
  · exact h3.lt
  · exact h5.lt
  · exact lt_of_heap h1.line
  · exact h1.ents.lt

theorem StAt.below {sb ma mp lb mb : Nat} {S : CS} {w w' : World} (h : StAt sb ma mp lb mb S w) (g : Below w.heap.size w w') : StAt sb ma mp lb mb S w' := h.kept (fun k hk => g.block k (h.lts k hk))
theorem StAt.grown {sb ma mp lb mb : Nat} {S : CS} {w w' : World} (h : StAt sb ma mp lb mb S w) (g : w.grownBy w' none) : StAt sb ma mp lb mb S w' := h.kept (fun k hk => g.block k (h.lts k hk) (by simp))

end Go.Proofs.YtachmkhbbbmioaaGreat

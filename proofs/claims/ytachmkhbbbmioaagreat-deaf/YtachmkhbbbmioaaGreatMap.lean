import Derived.RangeFuncRecord
import Derived.WideKeyRuns
import Derived.Below
import Derived.MapKept
namespace Go.Proofs.YtachmkhbbbmioaaGreat
open Go.RowKit

/-- A pair of ints, as a value: a mark, or an operation's name. -/
abbrev pr (c k : Int) : Value := .agg #[.int .i64 c, .int .i64 k]

/-- An entry of a map whose keys are pairs of ints. -/
structure Ent where
  c : Int
  k : Int
  v : Value
  born : Nat

def Ent.entry (x : Ent) : MapEntry := { key := pr x.c x.k, val := x.v, born := x.born }

/-- What the model must say of the key's type. -/
structure KeyT (P : Program) (T K E : TypeId) : Prop where
  map : P.underlying T = some (.map K E)
  wide : (match P.underlying K with | some (.array _ _) | some (.struct _) => true | _ => false) = true
  eq : ∀ (w : World) (a b c d : Int), (Op.equal K (pr a b) (pr c d)).run P w = .ok (a == c && b == d) w
  ck : ∀ (w : World) (em : Bool) (a b : Int), (Instr.checkKey em 10000 K (pr a b)).run P w = .ok () w

def fnd (c k : Int) : List Ent → Nat → Option (Nat × Value)
  | [], _ => none
  | x :: l, i => if c == x.c && k == x.k then some (i, x.v) else fnd c k l (i + 1)

def look (c k : Int) (l : List Ent) : Option Value := (fnd c k l 0).map (·.2)

theorem run_find {P : Program} {T K E : TypeId} (H : KeyT P T K E) (w : World) (c k : Int) : ∀ (l : List Ent) (i : Nat), (Instr.findAsking K (pr c k) (l.map Ent.entry) i).run P w = .ok (fnd c k l i) w
  | [], i => by simp [Instr.findAsking, fnd]
  | x :: l, i => by
    have h1 := H.eq w c k x.c x.k
    have h2 := run_find H w c k l (i + 1)
    by_cases e : (c == x.c && k == x.k) = true
    · simp only [Bool.and_eq_true] at e
      simp [Instr.findAsking, fnd, Ent.entry, h1, e]
    · have e' : (c == x.c && k == x.k) = false := by simpa using e
      rw [e'] at h1
      simp only [List.map_cons, Instr.findAsking, Ent.entry, fnd, e']
      simp [h1, h2]

/-- Block b is a map whose entries are l. -/
def entsAt (w : World) (b : Nat) (l : List Ent) : Prop := ∃ clk, w.heap[b]? = some (.map (l.map Ent.entry).toArray clk)

theorem entsAt.lt {w : World} {b : Nat} {l : List Ent} (h : entsAt w b l) : b < w.heap.size := by
  obtain ⟨clk, h⟩ := h
  exact (Array.getElem?_eq_some_iff.1 h).1

theorem entsAt.of_block {w w' : World} {b : Nat} {l : List Ent} (h : entsAt w b l) (e : w'.heap[b]? = w.heap[b]?) : entsAt w' b l := by
  obtain ⟨clk, h⟩ := h
  exact ⟨clk, e.trans h⟩

theorem entsAt_drew {w : World} {b : Nat} {l : List Ent} : entsAt w.drew b l ↔ entsAt w b l := Iff.rfl
theorem entsAt_setCell {w : World} {b : Nat} {l : List Ent} {a : Addr} {v : Value} (h : entsAt w b l) : entsAt (w.setCell a v) b l := by
  obtain ⟨clk, h⟩ := h
  refine ⟨clk, ?_⟩
  simp only [World.setCell, Array.getElem?_modify, h]
  split <;> simp
theorem entsAt_alloc {w : World} {b : Nat} {l : List Ent} {o : Obj} (h : entsAt w b l) : entsAt (w.alloc o) b l := h.of_block (Below.heap_alloc _ _ _ h.lt)
theorem entsAt_putObj_other {w : World} {b r : Nat} {l : List Ent} {o : Obj} (h : entsAt w b l) (e : b ≠ r) : entsAt (w.putObj r o) b l := h.of_block (World.putObj_heap_other e)

theorem run_lookup {P : Program} {T K E : TypeId} (H : KeyT P T K E) {z : Value} (hz : ∀ w, (zeroValue E).run P w = .ok z w) {w : World} {b : Nat} {l : List Ent} (h : entsAt w b l) (c k : Int) :
    (Instr.lookup T (.map (some b)) (pr c k) false).run P w = .ok ((look c k l).getD z) w := by
  obtain ⟨clk, h⟩ := h
  have h1 := run_find H w c k l 0
  simp only [Instr.lookup]
  cases hf : fnd c k l 0 with
  | none => simp [run_getObj_map w b _ clk h, run_underlying H.map, H.ck, run_findKey_eq w H.wide, h1, hf, look, hz]
  | some p => simp [run_getObj_map w b _ clk h, run_underlying H.map, H.ck, run_findKey_eq w H.wide, h1, hf, look]

theorem run_lookup_ok {P : Program} {T K E : TypeId} (H : KeyT P T K E) {z : Value} (hz : ∀ w, (zeroValue E).run P w = .ok z w) {w : World} {b : Nat} {l : List Ent} (h : entsAt w b l) (c k : Int) :
    (Instr.lookup T (.map (some b)) (pr c k) true).run P w = .ok (.tuple #[(look c k l).getD z, .bool (look c k l).isSome]) w := by
  obtain ⟨clk, h⟩ := h
  have h1 := run_find H w c k l 0
  simp only [Instr.lookup]
  cases hf : fnd c k l 0 with
  | none => simp [run_getObj_map w b _ clk h, run_underlying H.map, H.ck, run_findKey_eq w H.wide, h1, hf, look, hz]
  | some p => simp [run_getObj_map w b _ clk h, run_underlying H.map, H.ck, run_findKey_eq w H.wide, h1, hf, look]

def put (c k : Int) (v : Value) (n : Nat) : List Ent → List Ent
  | [] => [{ c := c, k := k, v := v, born := n }]
  | x :: l => if c == x.c && k == x.k then { x with v := v } :: l else x :: put c k v n l

theorem fnd_look (c k : Int) : ∀ (l : List Ent) (i : Nat), (fnd c k l i).map (·.2) = look c k l
  | [], i => by simp [look, fnd]
  | x :: l, i => by
    have h1 := fnd_look c k l (i + 1)
    have h2 := fnd_look c k l (0 + 1)
    simp only [look, fnd]
    split
    · rfl
    · rw [h1, h2]

theorem look_nil (c k : Int) : look c k [] = none := rfl
theorem look_cons (c k : Int) (x : Ent) (l : List Ent) : look c k (x :: l) = if c = x.c ∧ k = x.k then some x.v else look c k l := by
  by_cases e : c = x.c ∧ k = x.k
  · simp [look, fnd, e]
  · have e' : ¬ (c == x.c && k == x.k) = true := by simpa using e
    rw [if_neg e]
    conv => lhs; unfold look fnd
    rw [if_neg e', fnd_look]

theorem look_put (c k c' k' : Int) (v : Value) (n : Nat) : ∀ (l : List Ent), look c' k' (put c k v n l) = if c' = c ∧ k' = k then some v else look c' k' l
  | [] => by simp [put, look_cons, look_nil]
  | x :: l => by
    have ih := look_put c k c' k' v n l
    unfold put
    by_cases e : c = x.c ∧ k = x.k
    · rw [if_pos (by simpa using e), look_cons, look_cons]
      obtain ⟨rfl, rfl⟩ := e
      simp only
      split <;> rfl
    · rw [if_neg (by simpa using e), look_cons, look_cons, ih]
      by_cases e1 : c' = x.c ∧ k' = x.k
      · rw [if_pos e1, if_pos e1, if_neg (fun h => e ⟨h.1.symm.trans e1.1, h.2.symm.trans e1.2⟩)]
      · rw [if_neg e1, if_neg e1]

theorem put_length (c k : Int) (v : Value) (n : Nat) : ∀ (l : List Ent), (put c k v n l).length = l.length + (if (look c k l).isSome then 0 else 1)
  | [] => by simp [put, look_nil]
  | x :: l => by
    have ih := put_length c k v n l
    unfold put
    rw [look_cons]
    by_cases e : c = x.c ∧ k = x.k
    · rw [if_pos (by simpa using e), if_pos e]; simp
    · rw [if_neg (by simpa using e), if_neg e]; simp only [List.length_cons, ih]; omega

theorem fnd_none (c k : Int) (v : Value) (n : Nat) : ∀ (l : List Ent) (i : Nat), fnd c k l i = none → put c k v n l = l ++ [{ c := c, k := k, v := v, born := n }]
  | [], i => fun _ => rfl
  | x :: l, i => fun h => by
    unfold fnd at h
    unfold put
    split at h
    · cases h
    · rename_i e
      rw [if_neg e, fnd_none c k v n l (i + 1) h]; rfl

theorem fnd_some (c k : Int) (v v0 : Value) (n j : Nat) : ∀ (l : List Ent) (i : Nat), fnd c k l i = some (j, v0) →
    i ≤ j ∧ (∃ e, (l.map Ent.entry)[j - i]? = some e ∧ e.key = pr c k) ∧ (l.map Ent.entry).modify (j - i) (fun e => { e with key := pr c k, val := v }) = (put c k v n l).map Ent.entry
  | [], i => fun h => by cases h
  | x :: l, i => fun h => by
    unfold fnd at h
    unfold put
    split at h
    · rename_i e
      have e2 := e
      simp only [Bool.and_eq_true, beq_iff_eq] at e2
      simp only [Option.some.injEq, Prod.mk.injEq] at h
      obtain ⟨rfl, rfl⟩ := h
      rw [if_pos e]
      refine ⟨Nat.le_refl _, ⟨x.entry, by simp, by simp [Ent.entry, e2]⟩, ?_⟩
      simp [Ent.entry, e2]
    · rename_i e
      obtain ⟨h1, ⟨e0, h2, h3⟩, h4⟩ := fnd_some c k v v0 n j l (i + 1) h
      rw [if_neg e]
      have e3 : j - i = (j - (i + 1)) + 1 := by omega
      refine ⟨by omega, ⟨e0, by rw [e3]; simpa using h2, h3⟩, ?_⟩
      rw [e3, List.map_cons, List.map_cons, List.modify_succ_cons, h4]

theorem run_stays (P : Program) (w : World) (c k : Int) : (Instr.keyThatStays (pr c k) (pr c k)).run P w = .ok (pr c k) w := by
  have h : Instr.sameBits 10000 (pr c k) (pr c k) = true := by
    show Instr.sameBits (9999 + 1) (pr c k) (pr c k) = true
    simp [Instr.sameBits]
  simp [Instr.keyThatStays, h]

theorem entsAt_putObj {w : World} {b clk : Nat} (h : b < w.heap.size) (l : List Ent) : entsAt (w.putObj b (.map (l.map Ent.entry).toArray clk)) b l := ⟨clk, World.putObj_heap_same h⟩

theorem run_setMap (P : Program) {w : World} {b : Nat} {es : Array MapEntry} {clk : Nat} (o : Obj) (h : w.heap[b]? = some (.map es clk)) : (setObj b o).run P w = .ok () (w.putObj b o) := by simp [setObj, Sem.run, h, World.putObj]

/-- A store into a map: block b alone turns, and its entries are as they were but for the one. -/
theorem run_update {P : Program} {T K E : TypeId} (H : KeyT P T K E) {w : World} {b : Nat} {l : List Ent} (h : entsAt w b l) (c k : Int) (v : Value) :
    ∃ (o : Obj) (n : Nat), (Instr.mapUpdate T (.map (some b)) (pr c k) v).run P w = .ok () (w.putObj b o) ∧ entsAt (w.putObj b o) b (put c k v n l) := by
  have hlt := h.lt
  obtain ⟨clk, h⟩ := h
  have h1 := run_find H w c k l 0
  cases hf : fnd c k l 0 with
  | none =>
    refine ⟨.map ((put c k v clk l).map Ent.entry).toArray (clk + 1), clk, ?_, entsAt_putObj hlt _⟩
    rw [fnd_none c k v clk l 0 hf]
    simp [Instr.mapUpdate, run_getObj_map w b _ clk h, run_underlying H.map, H.ck, run_findKey_eq w H.wide, h1, hf, run_setMap P _ h, Ent.entry]
  | some p =>
    obtain ⟨j, v0⟩ := p
    obtain ⟨-, ⟨e0, h2, h3⟩, h4⟩ := fnd_some c k v v0 clk j l 0 hf
    rw [Nat.sub_zero] at h2 h4
    refine ⟨.map ((put c k v clk l).map Ent.entry).toArray clk, clk, ?_, entsAt_putObj hlt _⟩
    have h6 : (Option.map ((fun x : MapEntry => x.key) ∘ Ent.entry) l[j]?).getD (pr c k) = pr c k := by
      rw [← Option.map_map, ← List.getElem?_map, h2]; simpa using h3
    simp [Instr.mapUpdate, run_getObj_map w b _ clk h, run_underlying H.map, H.ck, run_findKey_eq w H.wide, h1, hf, h6, run_stays, h4, run_setMap P _ h]

end Go.Proofs.YtachmkhbbbmioaaGreat

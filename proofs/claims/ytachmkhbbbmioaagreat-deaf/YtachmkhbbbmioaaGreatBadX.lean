import Derived.Test.YtachmkhbbbmioaaGreatFaceX
import Derived.WideLaws
import Derived.Test.YtachmkhbbbmioaaGreatRefFX
import Derived.Test.YtachmkhbbbmioaaGreatBytX
namespace Go.Proofs.YtachmkhbbbmioaaGreat
open Go.RowKit Go.Shelf Go.MuLone

/-- What New answers. -/
def newCode (n s : Int) : Int := if n < 1 ∨ 8 < n then 1 else if s < 1 ∨ n < s then 2 else 0

set_option maxRecDepth 100000 in
set_option maxHeartbeats 1000000 in
theorem stNew_bad (n s : Int) (h : newCode n s ≠ 0) (w : World) :
    Calls Tryz.prog 68 #[.agg #[.int .i64 n, .int .i64 s]] w fun e w' => e = .returned (.tuple #[.pointer none, .int .i64 (newCode n s)]) ∧ w.grownBy w' none := by
  have g0 : w.grownBy (w.alloc (.cells #[.int .i64 n, .int .i64 s] 77)) none := grown_alloc (grown_refl _) _
  unfold newCode at h ⊢
  by_cases h1 : n < 1
  · rw [if_pos (.inl h1)]
    go_enter Tryz.func68, Tryz.ntmps68
    go_wp2_with fail
    go_ret2
    exact ⟨rfl, g0⟩
  · by_cases h2 : 8 < n
    · rw [if_pos (.inr h2)]
      go_enter Tryz.func68, Tryz.ntmps68
      go_wp2_with fail
      go_ret2
      exact ⟨rfl, g0⟩
    · rw [if_neg (by omega)] at h ⊢
      by_cases h3 : s < 1
      · rw [if_pos (.inl h3)]
        go_enter Tryz.func68, Tryz.ntmps68
        go_wp2_with fail
        go_ret2
        exact ⟨rfl, g0⟩
      · by_cases h4 : n < s
        · rw [if_pos (.inr h4)]
          go_enter Tryz.func68, Tryz.ntmps68
          go_wp2_with fail
          go_ret2
          exact ⟨rfl, g0⟩
        · rw [if_neg (by omega)] at h
          exact (h rfl).elim

set_option maxRecDepth 100000 in
set_option maxHeartbeats 1000000 in
theorem cpNew_bad (n s : Int) (h : newCode n s ≠ 0) (w : World) :
    Calls Tryz.prog 35 #[.agg #[.int .i64 n, .int .i64 s]] w fun e w' => e = .returned (.tuple #[.pointer none, .int .i64 (newCode n s)]) ∧ w.grownBy w' none := by
  have hN := hide (fun w => stNew_bad n s h w)
  have g0 : w.grownBy (w.alloc (.cells #[.int .i64 n, .int .i64 s] 77)) none := grown_alloc (grown_refl _) _
  have hne : (newCode n s != 0) = true := by simpa using h
  generalize newCode n s = c at hN hne ⊢
  clear h
  go_enter Tryz.func35, Tryz.ntmps35
  go_wp2_with fail
  refine (hN.out _).mono ?_
  rintro e w1 ⟨rfl, hg⟩
  go_wp2_with fail
  go_ret2
  exact ⟨rfl, grown_trans g0 hg⟩

set_option maxRecDepth 100000 in
set_option maxHeartbeats 1000000 in
theorem stPending_any (sb ma mp lb mb : Nat) (S : CS) (w : World) (hS : StAt sb ma mp lb mb S w) :
    Calls Tryz.prog 80 #[.pointer (some ⟨sb, 0, none⟩)] w fun e w' => e = .returned (.int .i64 S.wt.length) ∧ Below w.heap.size w w' := by
  have c1 : w.cell? ⟨sb, 12, none⟩ = some (.map (some mp)) := cell_blk hS.st 12
  obtain ⟨EP, ⟨n, hp⟩, hPI⟩ := hS.pen
  have hlen : (Builtin.len_ #[135] 3 #[.map (some mp)]).run Tryz.prog w = .ok (.int .i64 S.wt.length) w := by
    rw [run_len_map (w := w) _ _ mp _ n (by kernel_rfl) hp, ← hPI.len]
    simp [goInt]
  go_enter Tryz.func80, Tryz.ntmps80
  go_wp2_with fail
  go_ret
  exact ⟨rfl, Below.refl _ _⟩

set_option maxRecDepth 100000 in
set_option maxHeartbeats 1000000 in
theorem face_pending (cb sb ma mp lb mb : Nat) (S : CS) (w : World) (h : CpAt cb sb ma mp lb mb S w) (v : Value) (Post : World → Prop)
    (hin : ∀ w1, w1.heap.size = w.heap.size → StAt sb ma mp lb mb S w1 → Calls Tryz.prog 80 #[.pointer (some ⟨sb, 0, none⟩)] w1 fun e w2 => e = .returned v ∧ Post w2 ∧ Fr (own3 sb ma mb) w1 w2) :
    Calls Tryz.prog 49 #[.pointer (some ⟨cb, 0, none⟩)] w fun e w' => e = .returned v ∧ ∃ w2, Post w2 ∧ w2.heap[cb]? = some (.cells #[.int .i32 1, .int .u32 0, .pointer (some ⟨sb, 0, none⟩)] 112) ∧ w' = w2.setCell ⟨cb, 0, none⟩ (.int .i32 0) ∧ Fr (own4 cb sb ma mb) w w' := by
  have c0 : w.cell? ⟨cb, 0, none⟩ = some (.int .i32 0) := cell_blk h.cp 0
  have f0 : w.frozen? ⟨cb, 0, none⟩ = false := frozen_blk h.cp 0
  obtain ⟨n1, n2, n3, n4, n5⟩ := h.ne
  have hS1 := h.locked (.int .i32 1)
  have k1 : (w.setCell ⟨cb, 0, none⟩ (.int .i32 1)).heap[cb]? = some (.cells #[.int .i32 1, .int .u32 0, .pointer (some ⟨sb, 0, none⟩)] 112) := by rw [set_blk h.cp]; rfl
  have c2 : (w.setCell ⟨cb, 0, none⟩ (.int .i32 1)).cell? ⟨cb, 2, none⟩ = some (.pointer (some ⟨sb, 0, none⟩)) := cell_blk k1 2
  have hF1 : Fr (own4 cb sb ma mb) w (w.setCell ⟨cb, 0, none⟩ (.int .i32 1)) := (Fr.refl _ w).setCell (.inl (by simp)) _
  have hC := hide (hin (w.setCell ⟨cb, 0, none⟩ (.int .i32 1)) (by simp [World.setCell]) hS1)
  clear hin
  go_enter_defers Tryz.func49, Tryz.ntmps49
  go_wp2_with (go_at_call 59; refine (lock_free muLib ⟨cb, 0, none⟩ _ c0 f0).mono ?_; rintro e w' ⟨rfl, rfl⟩)
  refine hC.out.mono ?_
  rintro e w2 ⟨rfl, hP, hF2⟩
  have k2 : w2.heap[cb]? = some (.cells #[.int .i32 1, .int .u32 0, .pointer (some ⟨sb, 0, none⟩)] 112) := hF2.blk k1 (by simp [n1, n2, n5])
  go_wp2_with fail
  refine leaves_cons (f := 60) (args := #[.pointer (some ⟨cb, 0, none⟩)]) (by simp) (by simp [go_sem]) ?_
  refine (unlock_deferred muLib ⟨cb, 0, none⟩ .returning _ (cell_blk k2 0) (frozen_blk k2 0)).mono ?_
  rintro e u' w3 ⟨rfl, rfl, rfl⟩
  exact ⟨_, results_tmp rfl _ _ _, rfl, w2, hP, k2, rfl, (hF1.trans (hF2.mono (by simp))).setCell (.inl (by simp)) _⟩

end Go.Proofs.YtachmkhbbbmioaaGreat

namespace Go.Proofs.YtachmkhbbbmioaaGreat
open Go.RowKit Go.Shelf

set_option maxRecDepth 100000 in
set_option maxHeartbeats 1000000 in
theorem refNew_bad (n s : Int) (h : newCode n s ≠ 0) (w : World) :
    Calls Tryz.prog 36 #[.agg #[.int .i64 n, .int .i64 s]] w fun e w' => e = .returned (.tuple #[.pointer none, .int .i64 (newCode n s)]) ∧ w.grownBy w' none := by
  have g0 : w.grownBy (w.alloc (.cells #[.int .i64 n, .int .i64 s] 77)) none := grown_alloc (grown_refl _) _
  unfold newCode at h ⊢
  by_cases h1 : n < 1
  · rw [if_pos (.inl h1)]
    go_enter Tryz.func36, Tryz.ntmps36
    go_wp2_with fail
    go_ret2
    exact ⟨rfl, g0⟩
  · by_cases h2 : 8 < n
    · rw [if_pos (.inr h2)]
      go_enter Tryz.func36, Tryz.ntmps36
      go_wp2_with fail
      go_ret2
      exact ⟨rfl, g0⟩
    · rw [if_neg (by omega)] at h ⊢
      by_cases h3 : s < 1
      · rw [if_pos (.inl h3)]
        go_enter Tryz.func36, Tryz.ntmps36
        go_wp2_with fail
        go_ret2
        exact ⟨rfl, g0⟩
      · by_cases h4 : n < s
        · rw [if_pos (.inr h4)]
          go_enter Tryz.func36, Tryz.ntmps36
          go_wp2_with fail
          go_ret2
          exact ⟨rfl, g0⟩
        · rw [if_neg (by omega)] at h
          exact (h rfl).elim

theorem ckRow_new (n s : Nat) : ckRow (newS n s) = List.replicate n [.int .i64 0] := by
  apply List.ext_getElem?
  intro i
  by_cases h : i < n
  · simp [ckRow, newS, h]
  · rw [List.getElem?_eq_none (by simp [ckRow, newS]; omega), List.getElem?_eq_none (by simp; omega)]

theorem flatten_rep (n : Nat) (x : Value) : (List.replicate n [x]).flatten = List.replicate n x := by
  induction n with
  | zero => rfl
  | succ n ih => rw [List.replicate_succ, List.flatten_cons, ih, List.replicate_succ]; rfl

theorem refAt_new {n s : Nat} (h8 : n ≤ 8) {w2 : World} {b yb : Nat} (hb : w2.heap[b]? = some (.cells (madeCells #[.int .i64 0] n) 3)) (hy : w2.heap[yb]? = some (.cells #[.int .i64 n, .int .i64 s, .slice (some ⟨b, 0, none⟩) n n, .int .i64 0, .slice none 0 0, .slice none 0 0, .slice none 0 0] 118)) :
    RefAt yb (newS n s) (.slice (some ⟨b, 0, none⟩) n n) (.slice none 0 0) (.slice none 0 0) (.slice none 0 0) [] [] w2 := by
  refine ⟨hy, ⟨⟨?_, .inr ⟨b, n, _, ?_, Nat.zero_le _, hb, ?_, ?_, ?_, ?_⟩⟩, ?_⟩, row_nil _ _ _, row_nil _ _ _, row_nil _ _ _, by simp [Value.ownBlock]⟩
  · rw [ckRow_new, flatten_rep]; simp
  · rw [ckRow_new]; simp
  · rw [ckRow_new]; simp
  · unfold maxLen; omega
  · rw [size_madeCells]; simp
  · rw [ckRow_new, flatten_rep, toList_madeCells_one]; simp
  · rw [ckRow_new]; intro x hx; rw [List.eq_of_mem_replicate hx]; rfl

set_option maxRecDepth 100000 in
set_option maxHeartbeats 1000000 in
theorem refNew_any (n s : Nat) (h1 : 1 ≤ s) (h2 : s ≤ n) (h3 : n ≤ 8) (w : World) :
    Calls Tryz.prog 36 #[.agg #[.int .i64 n, .int .i64 s]] w fun e w' => ∃ yb vc, e = .returned (.tuple #[.pointer (some ⟨yb, 0, none⟩), .int .i64 0]) ∧ RefAt yb (newS n s) vc (.slice none 0 0) (.slice none 0 0) (.slice none 0 0) [] [] w' ∧ w.grownBy w' none ∧
      (∀ k ∈ refOwn yb vc (.slice none 0 0) (.slice none 0 0) (.slice none 0 0), w.heap.size ≤ k) := by
  have hn1 : ¬ (n : Int) < 1 := by omega
  have hn8 : ¬ (8 : Int) < (n : Int) := by omega
  have hs1 : ¬ (s : Int) < 1 := by omega
  have hsn : ¬ (n : Int) < (s : Int) := by omega
  have hmk := fun w => run_make_row' (P := Tryz.prog) 40 3 (.int .i64 0) 8 Tryz.underlying40 infoInt rfl .i64 .i64 n (by omega) (by omega) w
  go_enter Tryz.func36, Tryz.ntmps36
  go_wp2_with fail
  have g0 : w.grownBy (w.alloc (.cells #[.int .i64 (n : Int), .int .i64 (s : Int)] 77)) none := grown_alloc (grown_refl _) _
  have k0 : (w.alloc (.cells #[.int .i64 (n : Int), .int .i64 (s : Int)] 77)).heap[w.heap.size]? = some (.cells #[.int .i64 (n : Int), .int .i64 (s : Int)] 77) := by rw [heap_alloc_at]; simp
  generalize (w.alloc (.cells #[.int .i64 (n : Int), .int .i64 (s : Int)] 77)) = w1 at g0 k0 ⊢
  have c0 : w1.cell? ⟨w.heap.size, 0, none⟩ = some (.int .i64 (n : Int)) := cell_blk k0 0
  have c1 : w1.cell? ⟨w.heap.size, 1, none⟩ = some (.int .i64 (s : Int)) := cell_blk k0 1
  have m1 := World.new_ne w1 _ c0
  go_region_held3 (fun w' => w'.cell? ⟨w.heap.size, 0, none⟩ = some (.int .i64 (n : Int)) ∧ w'.cell? ⟨w.heap.size, 1, none⟩ = some (.int .i64 (s : Int))) (go_keep) (fail)
  have hb : ((w1.alloc (.cells (madeCells #[.int .i64 0] n) 3)).alloc (.cells #[.int .i64 (n : Int), .int .i64 (s : Int), .slice (some ⟨w1.heap.size, 0, none⟩) n n, .int .i64 0, .slice none 0 0, .slice none 0 0, .slice none 0 0] 118)).drew.heap[w1.heap.size]? = some (.cells (madeCells #[.int .i64 0] n) 3) := by
    rw [heap_drew, Below.heap_alloc _ _ _ (by simp), heap_alloc_at]; simp
  have hy : ((w1.alloc (.cells (madeCells #[.int .i64 0] n) 3)).alloc (.cells #[.int .i64 (n : Int), .int .i64 (s : Int), .slice (some ⟨w1.heap.size, 0, none⟩) n n, .int .i64 0, .slice none 0 0, .slice none 0 0, .slice none 0 0] 118)).drew.heap[w1.heap.size + 1]? = some (.cells #[.int .i64 (n : Int), .int .i64 (s : Int), .slice (some ⟨w1.heap.size, 0, none⟩) n n, .int .i64 0, .slice none 0 0, .slice none 0 0, .slice none 0 0] 118) := by
    rw [heap_drew, heap_alloc_at]; simp
  have hg : w.grownBy ((w1.alloc (.cells (madeCells #[.int .i64 0] n) 3)).alloc (.cells #[.int .i64 (n : Int), .int .i64 (s : Int), .slice (some ⟨w1.heap.size, 0, none⟩) n n, .int .i64 0, .slice none 0 0, .slice none 0 0, .slice none 0 0] 118)).drew none := grown_drew (grown_alloc (grown_alloc g0 _) _)
  have hs := g0.size
  generalize ((w1.alloc (.cells (madeCells #[.int .i64 0] n) 3)).alloc (.cells #[.int .i64 (n : Int), .int .i64 (s : Int), .slice (some ⟨w1.heap.size, 0, none⟩) n n, .int .i64 0, .slice none 0 0, .slice none 0 0, .slice none 0 0] 118)).drew = w2 at hb hy hg ⊢
  go_wp2_with fail
  go_ret2
  refine ⟨w1.heap.size + 1, rfl, _, refAt_new h3 hb hy, hg, ?_⟩
  intro k hk
  simp only [refOwn, Value.ownBlock, Option.toList_some, Option.toList_none, List.append_nil, List.mem_cons, List.not_mem_nil, or_false] at hk
  rcases hk with rfl | rfl <;> omega

end Go.Proofs.YtachmkhbbbmioaaGreat

namespace Go.Proofs.YtachmkhbbbmioaaGreat
open Go.RowKit Go.Shelf

/-- An operation within the bounds of P8, by the promise's own words. -/
structure Ok8 (n : Nat) (x : OpR) : Prop where
  o : 1 ≤ x.o ∧ x.o ≤ n
  num : 1 ≤ x.num ∧ x.num ≤ 100
  c : 1 ≤ x.c ∧ x.c ≤ 1099511627776
  kind : 0 ≤ x.kind ∧ x.kind ≤ 1
  tgt : (x.tc = 0 ∧ x.tk = 0 ∧ x.kind = 0) ∨ (1 ≤ x.tc ∧ x.tc ≤ x.c - 1 ∧ 1 ≤ x.tk ∧ x.tk ≤ n)
  r : x.kind = 0 → Sc x.r
  r1 : x.kind = 1 → x.r = 0
  q : ∀ i, i < n → 0 ≤ x.q i ∧ x.q i ≤ 100
  q0 : ∀ i, n ≤ i → x.q i = 0
  own : x.q (x.o.toNat - 1) = x.num - 1

/-- What holds of the operations that wait. -/
structure WtOk (S : CS) : Prop where
  ok : ∀ x ∈ S.wt, Ok8 S.n x
  one : S.wt.Pairwise (fun x y => ¬ (x.o = y.o ∧ x.num = y.num))
  len : S.wt.length ≤ 16

theorem Ok8.ok {n : Nat} (h8 : n ≤ 8) {x : OpR} (h : Ok8 n x) : OpOk n x := by
  refine ⟨h.o, h.num, h.c, by have := h.kind; omega, by have := h.tgt; have := h.c; omega, by have := h.tgt; omega, ?_, fun i hi => ?_⟩
  · rcases (show x.kind = 0 ∨ x.kind = 1 by have := h.kind; omega) with k | k
    · have := h.r k; exact ⟨this.1, this.2.1⟩
    · rw [h.r1 k]; omega
  · by_cases q : i < n
    · exact h.q i q
    · rw [h.q0 i (by omega)]; omega

end Go.Proofs.YtachmkhbbbmioaaGreat

namespace Go.Proofs.YtachmkhbbbmioaaGreat
open Go.RowKit Go.Shelf

/-- A copy of the program and the document's. -/
structure Pr where
  cb : Nat
  sb : Nat
  ma : Nat
  mp : Nat
  lb : Nat
  mb : Nat
  yb : Nat
  vc : Value
  vl : Value
  vL : Value
  S : CS
  log : List (List Value)
  ks : List Nat
  vw : Value
  wr : List (List Value)

def Pr.own (x : Pr) : List Nat := [x.cb, x.sb, x.ma, x.mp, x.lb, x.mb] ++ (refOwn x.yb x.vc x.vl x.vw x.vL ++ x.ks)

def sumcl (S : CS) : Int := S.cl 0 + S.cl 1 + S.cl 2 + S.cl 3 + S.cl 4 + S.cl 5 + S.cl 6 + S.cl 7

def ckRowQ (n : Nat) (q : Nat → Int) : List (List Value) := (List.range n).map fun i => [.int .i64 (q i)]

/-- What holds of the operations that were applied (the newest first). -/
structure OpsOk (S : CS) : Prop where
  ok : ∀ x ∈ S.ops, OpOk S.n x ∧ x.num ≤ S.cl (x.o.toNat - 1)
  all : ∀ i, i < S.n → ∀ k : Int, 1 ≤ k → k ≤ S.cl i → ∃ x ∈ S.ops, x.o = (i : Int) + 1 ∧ x.num = k
  one : S.ops.Pairwise (fun x y => ¬ (x.o = y.o ∧ x.num = y.num))
  mkk : ∀ x ∈ S.L, 1 ≤ x.k ∧ x.k ≤ S.n

/-- The document's log: each operation with a clock of its own, in the blocks ks. -/
structure LogAt (n : Nat) (ks : List Nat) (log : List (List Value)) (ops : List OpR) (w : World) : Prop where
  len : log.length = ops.length
  row : ∀ (j : Nat) (x : OpR), ops.reverse[j]? = some x → ∃ vk, log[j]? = some (opCells x vk) ∧ RowAt 3 1 vk (ckRowQ n x.q) w ∧ ∀ g, vk.ownBlock = some g → g ∈ ks
  blk : ∀ k ∈ ks, ∃ c, w.heap[k]? = some (.cells c 3)

theorem LogAt.kept {n : Nat} {ks : List Nat} {log : List (List Value)} {ops : List OpR} {w w' : World} (h : LogAt n ks log ops w) (e : ∀ k ∈ ks, w'.heap[k]? = w.heap[k]?) : LogAt n ks log ops w' := by
  refine ⟨h.len, fun j x hj => ?_, fun k hk => ?_⟩
  · obtain ⟨vk, h1, h2, h3⟩ := h.row j x hj
    exact ⟨vk, h1, h2.kept (fun g hg => e g (h3 g hg)), h3⟩
  · obtain ⟨c, hc⟩ := h.blk k hk
    exact ⟨c, (e k hk).trans hc⟩

theorem LogAt.lt {n : Nat} {ks : List Nat} {log : List (List Value)} {ops : List OpR} {w : World} (h : LogAt n ks log ops w) : ∀ k ∈ ks, k < w.heap.size := fun k hk => by
  obtain ⟨c, hc⟩ := h.blk k hk
  exact lt_of_heap hc

/-- The rows of what waits by the document, each with a clock of its own, in the blocks ks. -/
structure WtRows (n : Nat) (ks : List Nat) (wr : List (List Value)) (wt : List OpR) (w : World) : Prop where
  len : wr.length = wt.length
  row : ∀ (j : Nat) (x : OpR), wt[j]? = some x → ∃ vk, wr[j]? = some (opCells x vk) ∧ RowAt 3 1 vk (ckRowQ n x.q) w ∧ ∀ g, vk.ownBlock = some g → g ∈ ks

theorem WtRows.kept {n : Nat} {ks : List Nat} {wr : List (List Value)} {wt : List OpR} {w w' : World} (h : WtRows n ks wr wt w) (e : ∀ k ∈ ks, w'.heap[k]? = w.heap[k]?) : WtRows n ks wr wt w' := by
  refine ⟨h.len, fun j x hj => ?_⟩
  obtain ⟨vk, h1, h2, h3⟩ := h.row j x hj
  exact ⟨vk, h1, h2.kept (fun g hg => e g (h3 g hg)), h3⟩
theorem WtRows.mono {n : Nat} {ks ks' : List Nat} {wr : List (List Value)} {wt : List OpR} {w : World} (h : WtRows n ks wr wt w) (e : ∀ k ∈ ks, k ∈ ks') : WtRows n ks' wr wt w := by
  refine ⟨h.len, fun j x hj => ?_⟩
  obtain ⟨vk, h1, h2, h3⟩ := h.row j x hj
  exact ⟨vk, h1, h2, fun g hg => e g (h3 g hg)⟩
theorem wtRows_nil (n : Nat) (ks : List Nat) (w : World) : WtRows n ks [] [] w := ⟨rfl, by simp⟩
theorem wtOk_new (n s : Nat) : WtOk (newS n s) := ⟨by simp [newS], by simp [newS], by simp [newS]⟩

structure PairAt (x : Pr) (w : World) : Prop where
  cp : CpAt x.cb x.sb x.ma x.mp x.lb x.mb x.S w
  rf : RefAt x.yb x.S x.vc x.vl x.vw x.vL x.log x.wr w
  good : Good x.S
  len : (x.S.L.length : Int) ≤ sumcl x.S
  log : (x.log.length : Int) ≤ sumcl x.S
  ops : OpsOk x.S
  lg : LogAt x.S.n x.ks x.log x.S.ops w
  kd : ∀ k ∈ x.ks, x.vc.ownBlock ≠ some k
  wl : WtRows x.S.n x.ks x.wr x.S.wt w
  wo : WtOk x.S

theorem sum_le {S : CS} (h : Good S) : sumcl S ≤ 800 := by
  have h0 := h.cl 0 (by omega)
  have h1 := h.cl 1 (by omega)
  have h2 := h.cl 2 (by omega)
  have h3 := h.cl 3 (by omega)
  have h4 := h.cl 4 (by omega)
  have h5 := h.cl 5 (by omega)
  have h6 := h.cl 6 (by omega)
  have h7 := h.cl 7 (by omega)
  unfold sumcl
  omega

theorem sum_bump (S : CS) (g : Int) (L : List El) : ∀ i, i < 8 → sumcl { S with cl := bump S.cl i, g := g, L := L } = sumcl S + 1
  | 0, _ => by simp [sumcl, bump]; omega
  | 1, _ => by simp [sumcl, bump]; omega
  | 2, _ => by simp [sumcl, bump]; omega
  | 3, _ => by simp [sumcl, bump]; omega
  | 4, _ => by simp [sumcl, bump]; omega
  | 5, _ => by simp [sumcl, bump]; omega
  | 6, _ => by simp [sumcl, bump]; omega
  | 7, _ => by simp [sumcl, bump]; omega
  | _ + 8, h => by omega

theorem CpAt.kept {cb sb ma mp lb mb : Nat} {S : CS} {w w' : World} (h : CpAt cb sb ma mp lb mb S w) (e : ∀ k ∈ [cb, sb, ma, mp, lb, mb], w'.heap[k]? = w.heap[k]?) : CpAt cb sb ma mp lb mb S w' :=
  ⟨(e cb (by simp)).trans h.cp, h.st.kept (fun k hk => e k (by simp; omega))⟩

theorem CpAt.lt {cb sb ma mp lb mb : Nat} {S : CS} {w : World} (h : CpAt cb sb ma mp lb mb S w) : ∀ k ∈ [cb, sb, ma, mp, lb, mb], k < w.heap.size := by
  intro k hk
  simp only [List.mem_cons, List.not_mem_nil, or_false] at hk
  rcases hk with rfl | hk
  · exact lt_of_heap h.cp
  · exact h.st.lts k (by omega)

theorem PairAt.kept {x : Pr} {w w' : World} (h : PairAt x w) (e : ∀ k ∈ x.own, w'.heap[k]? = w.heap[k]?) : PairAt x w' :=
  ⟨h.cp.kept (fun k hk => e k (List.mem_append_left _ hk)), h.rf.kept (fun k hk => e k (List.mem_append_right _ (List.mem_append_left _ hk))), h.good, h.len, h.log, h.ops, h.lg.kept (fun k hk => e k (List.mem_append_right _ (List.mem_append_right _ hk))), h.kd, h.wl.kept (fun k hk => e k (List.mem_append_right _ (List.mem_append_right _ hk))), h.wo⟩

theorem PairAt.lt {x : Pr} {w : World} (h : PairAt x w) : ∀ k ∈ x.own, k < w.heap.size := by
  intro k hk
  rcases List.mem_append.1 hk with hk | hk
  · exact h.cp.lt k hk
  · rcases List.mem_append.1 hk with hk | hk
    · exact h.rf.lt k hk
    · exact h.lg.lt k hk

theorem PairAt.l1000 {x : Pr} {w : World} (h : PairAt x w) : x.S.L.length ≤ 1000 ∧ x.log.length ≤ 1000 := by
  have h1 := sum_le h.good
  have h2 := h.len
  have h3 := h.log
  omega

/-- What the document's copy holds is none of the program's. -/
theorem refOwn_cells {yb : Nat} {S : CS} {vc vl vw vL : Value} {log wt : List (List Value)} {w : World} (h : RefAt yb S vc vl vw vL log wt w) : ∀ k ∈ refOwn yb vc vl vw vL, ∃ c e, w.heap[k]? = some (.cells c e) ∧ (e = 118 ∨ e = 3 ∨ e = 88 ∨ e = 130) := by
  intro k hk
  simp only [refOwn, List.mem_cons, List.mem_append, Option.mem_toList] at hk
  rcases hk with rfl | hk | hk | hk | hk
  · exact ⟨_, _, h.cp, .inl rfl⟩
  · obtain ⟨c, hc⟩ := h.ck.blk hk; exact ⟨_, _, hc, .inr (.inl rfl)⟩
  · obtain ⟨c, hc⟩ := h.lg.blk hk; exact ⟨_, _, hc, .inr (.inr (.inl rfl))⟩
  · obtain ⟨c, hc⟩ := h.wt.blk hk; exact ⟨_, _, hc, .inr (.inr (.inl rfl))⟩
  · obtain ⟨c, hc⟩ := h.ln.blk hk; exact ⟨_, _, hc, .inr (.inr (.inr rfl))⟩

theorem sep_of {cb sb ma mp lb mb yb : Nat} {S S' : CS} {vc vl vw vL : Value} {log wt : List (List Value)} {w : World} (hc : CpAt cb sb ma mp lb mb S w) (h : RefAt yb S' vc vl vw vL log wt w) : ∀ k ∈ refOwn yb vc vl vw vL, k ∉ [cb, sb, ma, mp, lb, mb] := by
  intro k hk q
  obtain ⟨c, e, h1, h2⟩ := refOwn_cells h k hk
  obtain ⟨E, l1, -⟩ := hc.st.ln
  obtain ⟨EA, ⟨ca, ha⟩, -⟩ := hc.st.app
  obtain ⟨EP, ⟨cp, hp⟩, -⟩ := hc.st.pen
  obtain ⟨cbb, hb⟩ := l1.ents
  simp only [List.mem_cons, List.not_mem_nil, or_false] at q
  rcases q with rfl | rfl | rfl | rfl | rfl | rfl
  · rw [hc.cp] at h1; cases h1; revert h2; decide
  · rw [hc.st.st] at h1; cases h1; revert h2; decide
  · rw [ha] at h1; cases h1
  · rw [hp] at h1; cases h1
  · rw [l1.line] at h1; cases h1; revert h2; decide
  · rw [hb] at h1; cases h1

/-- The clocks of the log are none of the program's blocks, nor of the document's others. -/
theorem sep_ks {cb sb ma mp lb mb : Nat} {S : CS} {w : World} (hc : CpAt cb sb ma mp lb mb S w) {k : Nat} {c : Array Value} (h1 : w.heap[k]? = some (.cells c 3)) : k ∉ [cb, sb, ma, mp, lb, mb] := by
  intro q
  obtain ⟨E, l1, -⟩ := hc.st.ln
  obtain ⟨EA, ⟨ca, ha⟩, -⟩ := hc.st.app
  obtain ⟨EP, ⟨cp, hp⟩, -⟩ := hc.st.pen
  obtain ⟨cbb, hb⟩ := l1.ents
  simp only [List.mem_cons, List.not_mem_nil, or_false] at q
  rcases q with rfl | rfl | rfl | rfl | rfl | rfl
  · rw [hc.cp] at h1; cases h1
  · rw [hc.st.st] at h1; cases h1
  · rw [ha] at h1; cases h1
  · rw [hp] at h1; cases h1
  · rw [l1.line] at h1; cases h1
  · rw [hb] at h1; cases h1

theorem sep_kr {yb : Nat} {S : CS} {vc vl vw vL : Value} {log wt : List (List Value)} {w : World} (h : RefAt yb S vc vl vw vL log wt w) {k : Nat} {c : Array Value} (h1 : w.heap[k]? = some (.cells c 3)) (hv : vc.ownBlock ≠ some k) : k ∉ refOwn yb vc vl vw vL := by
  intro hk
  simp only [refOwn, List.mem_cons, List.mem_append, Option.mem_toList] at hk
  rcases hk with rfl | hk | hk | hk | hk
  · rw [h.cp] at h1; cases h1
  · exact hv hk
  · obtain ⟨c, hc⟩ := h.lg.blk hk; rw [hc] at h1; cases h1
  · obtain ⟨c, hc⟩ := h.wt.blk hk; rw [hc] at h1; cases h1
  · obtain ⟨c, hc⟩ := h.ln.blk hk; rw [hc] at h1; cases h1

theorem lg_prog {x : Pr} {w w1 : World} (h : PairAt x w) (hF : Fr (own4 x.cb x.sb x.ma x.mb) w w1) : LogAt x.S.n x.ks x.log x.S.ops w1 :=
  h.lg.kept (fun k hk => by
    obtain ⟨c, hc⟩ := h.lg.blk k hk
    exact hF.block k (lt_of_heap hc) (fun q => sep_ks h.cp hc (by revert q; simp only [List.mem_cons, List.not_mem_nil, or_false]; omega)))

theorem wl_prog {x : Pr} {w w1 : World} (h : PairAt x w) (hF : Fr (own4 x.cb x.sb x.ma x.mb) w w1) : WtRows x.S.n x.ks x.wr x.S.wt w1 :=
  h.wl.kept (fun k hk => by
    obtain ⟨c, hc⟩ := h.lg.blk k hk
    exact hF.block k (lt_of_heap hc) (fun q => sep_ks h.cp hc (by revert q; simp only [List.mem_cons, List.not_mem_nil, or_false]; omega)))

theorem PairAt.apart {x : Pr} {w : World} (h : PairAt x w) : Apart x.S.L := by
  obtain ⟨E, -, h1⟩ := h.cp.st.ln
  exact h1.apart

/-- Behind a write of the pair. -/
def After (x : Pr) (w w2 : World) : Prop := ∃ x' : Pr, PairAt x' w2 ∧ x'.cb = x.cb ∧ x'.yb = x.yb ∧ Fr x.own w w2 ∧ OwnFrom x.own x'.own w.heap.size

theorem own4_sub (x : Pr) : ∀ k ∈ own4 x.cb x.sb x.ma x.mb, k ∈ x.own := by
  intro k hk
  simp only [List.mem_cons, List.not_mem_nil, or_false] at hk
  refine List.mem_append_left _ ?_
  simp
  omega

theorem own4_in {cb sb ma mp lb mb : Nat} : ∀ k ∈ own4 cb sb ma mb, k ∈ [cb, sb, ma, mp, lb, mb] := by
  intro k hk
  simp only [List.mem_cons, List.not_mem_nil, or_false] at hk ⊢
  omega

/-- The program's call, then the document's, when nothing is written. -/
theorem after_same {x : Pr} {w w1 w2 : World} (h : PairAt x w) (hc : CpAt x.cb x.sb x.ma x.mp x.lb x.mb x.S w1) (hF : Fr (own4 x.cb x.sb x.ma x.mb) w w1) (hB : Below w1.heap.size w1 w2) : After x w w2 := by
  have hs := sep_of h.cp h.rf
  have hr1 : RefAt x.yb x.S x.vc x.vl x.vw x.vL x.log x.wr w1 := h.rf.kept (fun k hk => hF.block k (h.rf.lt k hk) (fun q => hs k hk (own4_in k q)))
  have hc2 : CpAt x.cb x.sb x.ma x.mp x.lb x.mb x.S w2 := hc.kept (fun k hk => hB.block k (hc.lt k hk))
  exact ⟨x, ⟨hc2, hr1.below hB, h.good, h.len, h.log, h.ops, (lg_prog h hF).kept (fun k hk => hB.block k ((lg_prog h hF).lt k hk)), h.kd, (wl_prog h hF).kept (fun k hk => hB.block k ((lg_prog h hF).lt k hk)), h.wo⟩, rfl, rfl, (hF.mono (own4_sub x)).below hB hF.size, fun k hk => .inl hk⟩

theorem ref_after {x : Pr} {w w1 : World} (h : PairAt x w) (hF : Fr (own4 x.cb x.sb x.ma x.mb) w w1) : RefAt x.yb x.S x.vc x.vl x.vw x.vL x.log x.wr w1 := by
  have hs := sep_of h.cp h.rf
  exact h.rf.kept (fun k hk => hF.block k (h.rf.lt k hk) (fun q => hs k hk (own4_in k q)))

/-- The program's call, then the document's, when both write. -/
theorem after_write {x : Pr} {w w1 w2 : World} {S' : CS} {vl' vL' vk : Value} {op : OpR} (h : PairAt x w) (hc : CpAt x.cb x.sb x.ma x.mp x.lb x.mb S' w1) (hF : Fr (own4 x.cb x.sb x.ma x.mb) w w1) (hr : RefAt x.yb S' x.vc vl' x.vw vL' (x.log ++ [opCells op vk]) x.wr w2)
    (hk : NewClk x.S vk w1.heap.size w2) (hq : op.q = x.S.cl) (hn : S'.n = x.S.n) (ho' : S'.ops = op :: x.S.ops)
    (hF2 : Fr (refOwn x.yb x.vc x.vl x.vw x.vL) w1 w2) (ho : OwnFrom (refOwn x.yb x.vc x.vl x.vw x.vL) (refOwn x.yb x.vc vl' x.vw vL') w1.heap.size) (hg : Good S') (hl : (S'.L.length : Int) ≤ sumcl S') (hlog : (x.log.length : Int) + 1 ≤ sumcl S') (hops : OpsOk S') (hwt : S'.wt = x.S.wt) : After x w w2 := by
  have hr1 := ref_after h hF
  have hs := sep_of hc hr1
  have hc2 : CpAt x.cb x.sb x.ma x.mp x.lb x.mb S' w2 := hc.kept (fun k hk => hF2.block k (hc.lt k hk) (fun q => hs k q hk))
  have hlg1 := lg_prog h hF
  have hlg2 : LogAt x.S.n x.ks x.log x.S.ops w2 := hlg1.kept (fun k hk => by
    obtain ⟨c, hc⟩ := hlg1.blk k hk
    exact hF2.block k (lt_of_heap hc) (sep_kr hr1 hc (h.kd k hk)))
  have hwl2 : WtRows x.S.n x.ks x.wr x.S.wt w2 := (wl_prog h hF).kept (fun k hk => by
    obtain ⟨c, hc⟩ := hlg1.blk k hk
    exact hF2.block k (lt_of_heap hc) (sep_kr hr1 hc (h.kd k hk)))
  refine ⟨{ x with vl := vl', vL := vL', S := S', log := x.log ++ [opCells op vk], ks := x.ks ++ vk.ownBlock.toList }, ⟨hc2, hr, hg, hl, by simpa using hlog, hops, ⟨?_, ?_, ?_⟩, ?_, by show WtRows S'.n _ x.wr S'.wt w2; rw [hn, hwt]; exact hwl2.mono (fun k hk => List.mem_append_left _ hk), ⟨fun y hy => by rw [hn]; rw [hwt] at hy; exact h.wo.ok y hy, by rw [hwt]; exact h.wo.one, by rw [hwt]; exact h.wo.len⟩⟩, rfl, rfl, (hF.mono (own4_sub x)).trans (hF2.mono (fun k hk => List.mem_append_right _ (List.mem_append_left _ hk))), fun k hk => ?_⟩
  · show (x.log ++ [opCells op vk]).length = S'.ops.length
    rw [ho', List.length_append, hlg2.len]; simp
  · intro j y hj
    show ∃ vk', (x.log ++ [opCells op vk])[j]? = some (opCells y vk') ∧ RowAt 3 1 vk' (ckRowQ S'.n y.q) w2 ∧ _
    have hj' : S'.ops.reverse[j]? = some y := hj
    rw [ho', List.reverse_cons, List.getElem?_append] at hj'
    rw [hn]
    split at hj'
    · rename_i hlt
      obtain ⟨v, h1, h2, h3⟩ := hlg2.row j y hj'
      refine ⟨v, ?_, h2, fun g hg => List.mem_append_left _ (h3 g hg)⟩
      rw [List.getElem?_append_left (by rw [hlg2.len]; simpa using hlt)]
      exact h1
    · rename_i hlt
      have e0 : j = x.S.ops.reverse.length ∧ y = op := by
        rcases Nat.eq_zero_or_pos (j - x.S.ops.reverse.length) with e | e
        · rw [e] at hj'; exact ⟨by omega, by simpa using hj'.symm⟩
        · rw [List.getElem?_eq_none (by show 1 ≤ _; omega)] at hj'; cases hj'
      obtain ⟨e1, rfl⟩ := e0
      refine ⟨vk, ?_, ?_, fun g hg => List.mem_append_right _ (by simpa using hg)⟩
      · rw [List.getElem?_append_right (by rw [hlg2.len, e1]; simp), e1, hlg2.len]; simp
      · rw [hq]; exact hk.row
  · intro k hk'
    rcases List.mem_append.1 hk' with hk' | hk'
    · exact hlg2.blk k hk'
    · exact hk.row.blk (by simpa using hk')
  · intro k hk' q
    rcases List.mem_append.1 hk' with hk' | hk'
    · exact h.kd k hk' q
    · have h1 := hk.new k (by simpa using hk')
      have h2 := hr1.ck.lt q
      omega
  · rcases List.mem_append.1 hk with hk | hk
    · exact .inl (List.mem_append_left _ hk)
    · rcases List.mem_append.1 hk with hk | hk
      · exact (ho k hk).imp (fun q => List.mem_append_right _ (List.mem_append_left _ q)) (fun q => Nat.le_trans hF.size q)
      · rcases List.mem_append.1 hk with hk | hk
        · exact .inl (List.mem_append_right _ (List.mem_append_right _ hk))
        · exact .inr (Nat.le_trans hF.size (NewClk.new ‹_› k (by simpa using hk)))

/-- One operation more. -/
theorem ops_push {S S' : CS} (hG : Good S) (h : OpsOk S) {op : OpR} (hn : S'.n = S.n) (hcl : S'.cl = bump S.cl (S.s - 1)) (ho' : S'.ops = op :: S.ops) (ho : op.o = S.s) (hnum : op.num = S.cl (S.s - 1) + 1) (hok : OpOk S.n op) (hmk : ∀ x ∈ S'.L, 1 ≤ x.k ∧ x.k ≤ S.n) : OpsOk S' := by
  have hs1 := hG.s1
  have es : op.o.toNat - 1 = S.s - 1 := by rw [ho]; simp
  refine ⟨?_, ?_, ?_, by rw [hn]; exact hmk⟩
  · rw [ho', hn, hcl]
    intro x hx
    rcases List.mem_cons.1 hx with rfl | hx
    · exact ⟨hok, by rw [es, bump_same]; omega⟩
    · have h1 := h.ok x hx
      refine ⟨h1.1, Int.le_trans h1.2 ?_⟩
      by_cases q : x.o.toNat - 1 = S.s - 1
      · rw [q, bump_same]; omega
      · rw [bump_other _ q]; exact Int.le_refl _
  · rw [ho', hn, hcl]
    intro i hi k h1 h2
    by_cases q : i = S.s - 1
    · subst q
      rw [bump_same] at h2
      by_cases e : k = S.cl (S.s - 1) + 1
      · exact ⟨op, by simp, by rw [ho]; omega, by rw [hnum, e]⟩
      · obtain ⟨x, hx, e1, e2⟩ := h.all (S.s - 1) hi k h1 (by omega)
        exact ⟨x, by simp [hx], e1, e2⟩
    · rw [bump_other _ q] at h2
      obtain ⟨x, hx, e1, e2⟩ := h.all i hi k h1 h2
      exact ⟨x, by simp [hx], e1, e2⟩
  · rw [ho']
    refine List.pairwise_cons.2 ⟨fun y hy q => ?_, h.one⟩
    have h1 := (h.ok y hy).2
    rw [← q.1, es, ← q.2, hnum] at h1
    omega

theorem mark_last {A R : List El} {P : El → Prop} (h : ∀ x ∈ A ++ R, P x) : (A = [] ∧ lc A = 0 ∧ lk A = 0) ∨ ∃ x, P x ∧ lc A = x.c ∧ lk A = x.k := by
  rcases snoc_cases A with rfl | ⟨B, x, rfl⟩
  · exact .inl ⟨rfl, rfl, rfl⟩
  · obtain ⟨e1, e2, -, -⟩ := last_snoc B x
    exact .inr ⟨x, h x (by simp), e1, e2⟩

theorem opIns_ok {S : CS} (hG : Good S) (h : OpsOk S) (hfu : decide (100 ≤ S.cl (S.s - 1) ∨ 1099511627776 ≤ S.g) = false) {r : Int} (hr : Lib.validRune r = true) {A R : List El} (hL : S.L = A ++ R) : OpOk S.n (opIns S (lc A) (lk A) r) := by
  have hnf := of_decide_eq_false hfu
  have hs1 := hG.s1
  have hsn := hG.sn
  have h8 := hG.n8
  have hg0 := hG.g0
  have hcs := hG.cl (S.s - 1) (by omega)
  have hsc := valid_sc hr
  have hm : (lc A = 0 ∧ lk A = 0) ∨ ((0 < lc A ∧ lc A ≤ S.g) ∧ (1 ≤ lk A ∧ lk A ≤ S.n)) := by
    have h1 : ∀ x ∈ A ++ R, (0 < x.c ∧ x.c ≤ S.g) ∧ (1 ≤ x.k ∧ x.k ≤ S.n) := fun x hx => by rw [← hL] at hx; exact ⟨hG.mark x hx, h.mkk x hx⟩
    rcases mark_last h1 with ⟨-, e1, e2⟩ | ⟨x, hx, e1, e2⟩
    · exact .inl ⟨e1, e2⟩
    · rw [e1, e2]; exact .inr hx
  refine ⟨?_, ?_, ?_, .inl rfl, ?_, ?_, ?_, fun i hi => hG.cl i hi⟩
  · show 1 ≤ (S.s : Int) ∧ (S.s : Int) ≤ S.n; omega
  · show 1 ≤ S.cl (S.s - 1) + 1 ∧ S.cl (S.s - 1) + 1 ≤ 100; omega
  · show 1 ≤ S.g + 1 ∧ S.g + 1 ≤ 1099511627776; omega
  · show 0 ≤ lc A ∧ lc A ≤ 1099511627776; omega
  · show 0 ≤ lk A ∧ lk A ≤ 8; omega
  · show 0 ≤ r ∧ r ≤ 1114111; exact ⟨hsc.1, hsc.2.1⟩

theorem opDel_ok {S : CS} (hG : Good S) (h : OpsOk S) (hfu : decide (100 ≤ S.cl (S.s - 1) ∨ 1099511627776 ≤ S.g) = false) {A R : List El} {x : El} (hL : S.L = A ++ x :: R) : OpOk S.n (opDel S x.c x.k) := by
  have hnf := of_decide_eq_false hfu
  have hs1 := hG.s1
  have hsn := hG.sn
  have h8 := hG.n8
  have hg0 := hG.g0
  have hcs := hG.cl (S.s - 1) (by omega)
  have hx : x ∈ S.L := by rw [hL]; simp
  have h1 := hG.mark x hx
  have h2 := h.mkk x hx
  refine ⟨?_, ?_, ?_, .inr rfl, ?_, ?_, ?_, fun i hi => hG.cl i hi⟩
  · show 1 ≤ (S.s : Int) ∧ (S.s : Int) ≤ S.n; omega
  · show 1 ≤ S.cl (S.s - 1) + 1 ∧ S.cl (S.s - 1) + 1 ≤ 100; omega
  · show 1 ≤ S.g + 1 ∧ S.g + 1 ≤ 1099511627776; omega
  · show 0 ≤ x.c ∧ x.c ≤ 1099511627776; omega
  · show 0 ≤ x.k ∧ x.k ≤ 8; omega
  · show 0 ≤ (0 : Int) ∧ (0 : Int) ≤ 1114111; omega

theorem mk_ins {S : CS} (hG : Good S) (h : OpsOk S) {r : Int} (hr : Lib.validRune r = true) {A R : List El} (hL : S.L = A ++ R) : ∀ x ∈ A ++ behind (newEl S r hr) R, 1 ≤ x.k ∧ x.k ≤ S.n := by
  have hs1 := hG.s1
  have hsn := hG.sn
  rw [behind_top hG hr hL]
  intro x hx
  rcases List.mem_append.1 hx with hx | hx
  · exact h.mkk x (by rw [hL]; simp [hx])
  · rcases List.mem_cons.1 hx with rfl | hx
    · show 1 ≤ (S.s : Int) ∧ (S.s : Int) ≤ S.n; omega
    · exact h.mkk x (by rw [hL]; simp [hx])

theorem mk_del {S : CS} (h : OpsOk S) {A R : List El} {z : El} (hL : S.L = A ++ z :: R) : ∀ x ∈ A ++ gone z :: R, 1 ≤ x.k ∧ x.k ≤ S.n := by
  intro x hx
  rcases List.mem_append.1 hx with hx | hx
  · exact h.mkk x (by rw [hL]; simp [hx])
  · rcases List.mem_cons.1 hx with rfl | hx
    · exact h.mkk z (by rw [hL]; simp)
    · exact h.mkk x (by rw [hL]; simp [hx])

theorem opsOk_new (n s : Nat) : OpsOk (newS n s) := ⟨by simp [newS], fun i _ k h1 h2 => by simp [newS] at h2; omega, by simp [newS], by simp [newS]⟩
theorem logAt_new (n : Nat) (w : World) : LogAt n [] [] [] w := ⟨rfl, by simp, by simp⟩

theorem RefAt.sameOps {yb : Nat} {S : CS} {vc vl vw vL : Value} {log wt : List (List Value)} {w : World} (h : RefAt yb S vc vl vw vL log wt w) (ops : List OpR) : RefAt yb { S with ops := ops } vc vl vw vL log wt w := ⟨h.cp, h.ck, h.lg, h.wt, h.ln, h.ap⟩
theorem Good.sameOps {S : CS} (h : Good S) (ops : List OpR) : Good { S with ops := ops } := ⟨h.s1, h.sn, h.n8, h.g0, h.g1, h.cl, h.len, h.mark⟩

theorem good_ins {S : CS} (hG : Good S) (hl : S.L.length ≤ 1000) (hfu : decide (100 ≤ S.cl (S.s - 1) ∨ 1099511627776 ≤ S.g) = false) {r : Int} (hr : Lib.validRune r = true) {A R : List El} (hL : S.L = A ++ R) :
    Good { S with cl := bump S.cl (S.s - 1), g := S.g + 1, L := A ++ behind (newEl S r hr) R } ∧ (A ++ behind (newEl S r hr) R).length = S.L.length + 1 := by
  have hnf := of_decide_eq_false hfu
  have hlen : (A ++ newEl S r hr :: R).length = S.L.length + 1 := by rw [hL]; simp; omega
  rw [behind_top hG hr hL]
  refine ⟨⟨hG.s1, hG.sn, hG.n8, ?_, ?_, ?_, ?_, ?_⟩, hlen⟩
  · have := hG.g0; show 0 ≤ S.g + 1; omega
  · show S.g + 1 ≤ _; omega
  · intro i hi
    show 0 ≤ bump S.cl (S.s - 1) i ∧ bump S.cl (S.s - 1) i ≤ 100
    have h2 := hG.cl i hi
    by_cases q : i = S.s - 1
    · subst q
      rw [bump_same]; omega
    · rw [bump_other _ q]; exact h2
  · show (vis (A ++ newEl S r hr :: R)).length ≤ _
    have : (vis (A ++ newEl S r hr :: R)).length ≤ (A ++ newEl S r hr :: R).length := List.length_filter_le _ _
    omega
  · intro x hx
    show 0 < x.c ∧ x.c ≤ S.g + 1
    rcases List.mem_append.1 hx with hx | hx
    · have := hG.mark x (by rw [hL]; simp [hx]); omega
    · rcases List.mem_cons.1 hx with rfl | hx
      · have := hG.g0; simp only [newEl]; omega
      · have := hG.mark x (by rw [hL]; simp [hx]); omega

theorem good_del {S : CS} (hG : Good S) (hl : S.L.length ≤ 1000) (hfu : decide (100 ≤ S.cl (S.s - 1) ∨ 1099511627776 ≤ S.g) = false) {A R : List El} {x : El} (hL : S.L = A ++ x :: R) :
    Good { S with cl := bump S.cl (S.s - 1), g := S.g + 1, L := A ++ gone x :: R } ∧ (A ++ gone x :: R).length = S.L.length := by
  have hnf := of_decide_eq_false hfu
  have hlen : (A ++ gone x :: R).length = S.L.length := by rw [hL]; simp
  refine ⟨⟨hG.s1, hG.sn, hG.n8, ?_, ?_, ?_, ?_, ?_⟩, hlen⟩
  · have := hG.g0; show 0 ≤ S.g + 1; omega
  · show S.g + 1 ≤ _; omega
  · intro i hi
    show 0 ≤ bump S.cl (S.s - 1) i ∧ bump S.cl (S.s - 1) i ≤ 100
    have h2 := hG.cl i hi
    by_cases q : i = S.s - 1
    · subst q
      rw [bump_same]; omega
    · rw [bump_other _ q]; exact h2
  · show (vis (A ++ gone x :: R)).length ≤ _
    have : (vis (A ++ gone x :: R)).length ≤ (A ++ gone x :: R).length := List.length_filter_le _ _
    omega
  · intro y hy
    show 0 < y.c ∧ y.c ≤ S.g + 1
    rcases List.mem_append.1 hy with hy | hy
    · have := hG.mark y (by rw [hL]; simp [hy]); omega
    · rcases List.mem_cons.1 hy with rfl | hy
      · have := hG.mark x (by rw [hL]; simp)
        simp only [gone]; omega
      · have := hG.mark y (by rw [hL]; simp [hy]); omega

theorem pair_ins (x : Pr) (p r : Int) (w : World) (h : PairAt x w) :
    ∃ code : Int, Calls Tryz.prog 54 #[.pointer (some ⟨x.cb, 0, none⟩), .int .i64 p, .int .i32 r] w fun e w1 => e = .returned (.int .i64 code) ∧ Fr x.own w w1 ∧
      Calls Tryz.prog 91 #[.pointer (some ⟨x.yb, 0, none⟩), .int .i64 p, .int .i64 r] w1 fun e2 w2 => e2 = .returned (.int .i64 code) ∧ After x w w2 := by
  obtain ⟨l1, l2⟩ := h.l1000
  have err : ∀ (c : Int), (∀ w1, StAt x.sb x.ma x.mp x.lb x.mb x.S w1 → Calls Tryz.prog 81 #[.pointer (some ⟨x.sb, 0, none⟩), .int .i64 p, .int .i32 r] w1 fun e w2 => e = .returned (.int .i64 c) ∧ Below w1.heap.size w1 w2) →
      (∀ w1, RefAt x.yb x.S x.vc x.vl x.vw x.vL x.log x.wr w1 → Calls Tryz.prog 91 #[.pointer (some ⟨x.yb, 0, none⟩), .int .i64 p, .int .i64 r] w1 fun e w2 => e = .returned (.int .i64 c) ∧ Below w1.heap.size w1 w2) →
      Calls Tryz.prog 54 #[.pointer (some ⟨x.cb, 0, none⟩), .int .i64 p, .int .i32 r] w fun e w1 => e = .returned (.int .i64 c) ∧ Fr x.own w w1 ∧
        Calls Tryz.prog 91 #[.pointer (some ⟨x.yb, 0, none⟩), .int .i64 p, .int .i64 r] w1 fun e2 w2 => e2 = .returned (.int .i64 c) ∧ After x w w2 := by
    intro c hin href
    refine (face_ins x.cb x.sb x.ma x.mp x.lb x.mb x.S p r w h.cp (.int .i64 c) (fun w2 => StAt x.sb x.ma x.mp x.lb x.mb x.S w2) (fun w1 _ hS => ?_)).mono ?_
    · refine (hin w1 hS).mono ?_
      rintro e w2 ⟨rfl, hB⟩
      exact ⟨rfl, hS.below hB, Fr.ofBelow hB⟩
    · rintro e w' ⟨rfl, w2, hS2, hk, rfl, hF⟩
      refine ⟨rfl, hF.mono (own4_sub x), (href _ (ref_after h hF)).mono ?_⟩
      rintro e w3 ⟨rfl, hB⟩
      exact ⟨rfl, after_same h (CpAt.unlock hS2 hk) hF hB⟩
  by_cases c1 : p < 0 ∨ ((vis x.S.L).length : Int) < p
  · exact ⟨3, err 3 (fun w1 hS => stIns_place _ _ _ _ _ x.S p r w1 hS h.good.len c1) (fun w1 hr => ref_ins_place _ _ _ _ _ _ _ _ p r w1 hr (by omega) c1)⟩
  by_cases c2 : Lib.validRune r = false
  · exact ⟨4, err 4 (fun w1 hS => stIns_rune _ _ _ _ _ x.S p r w1 hS h.good.len (by omega) (by omega) c2) (fun w1 hr => ref_ins_rune _ _ _ _ _ _ _ _ p r w1 hr (by omega) (by omega) (by omega) c2)⟩
  have c2' : Lib.validRune r = true := by simpa using c2
  by_cases c3 : decide (100 ≤ x.S.cl (x.S.s - 1) ∨ 1099511627776 ≤ x.S.g) = true
  · exact ⟨5, err 5 (fun w1 hS => stIns_full _ _ _ _ _ x.S h.good p r w1 hS (by omega) (by omega) c2' c3) (fun w1 hr => ref_ins_full _ _ h.good _ _ _ _ _ _ p r w1 hr (by omega) (by omega) (by omega) c2' c3)⟩
  have c3' : decide (100 ≤ x.S.cl (x.S.s - 1) ∨ 1099511627776 ≤ x.S.g) = false := by simpa using c3
  obtain ⟨q, rfl⟩ := Int.eq_ofNat_of_zero_le (show 0 ≤ p by omega)
  refine ⟨0, (face_ins x.cb x.sb x.ma x.mp x.lb x.mb x.S q r w h.cp (.int .i64 0) (fun w2 => ∃ A R, CutIs x.S.L q A R ∧ StAt x.sb x.ma x.mp x.lb x.mb { x.S with cl := bump x.S.cl (x.S.s - 1), g := x.S.g + 1, L := A ++ behind (newEl x.S r c2') R, ops := opIns x.S (lc A) (lk A) r :: x.S.ops } w2) (fun w1 _ hS => ?_)).mono ?_⟩
  · refine (stIns_ok _ _ _ _ _ x.S h.good q r w1 hS (by omega) c2' c3').mono ?_
    rintro e w2 ⟨rfl, A, R, hC, hS2, hF2⟩
    exact ⟨rfl, ⟨A, R, hC, hS2⟩, hF2⟩
  · rintro e w' ⟨rfl, w2, ⟨A, R, hC, hS2⟩, hk, rfl, hF⟩
    refine ⟨rfl, hF.mono (own4_sub x), (ref_ins_ok _ _ h.good h.apart _ _ _ _ _ _ q r _ (ref_after h hF) (by omega) (by omega) (by omega) c2' c3' A R hC).mono ?_⟩
    rintro e w3 ⟨rfl, vl', vL', vk, h1, h2, h3, h4⟩
    obtain ⟨g1, g2⟩ := good_ins h.good l1 c3' c2' hC.1
    have hs := sum_bump x.S (x.S.g + 1) (A ++ behind (newEl x.S r c2') R) (x.S.s - 1) (by have := h.good.s1; have := h.good.sn; have := h.good.n8; omega)
    have hl := h.len
    have hlg := h.log
    have hop := ops_push (S' := { x.S with cl := bump x.S.cl (x.S.s - 1), g := x.S.g + 1, L := A ++ behind (newEl x.S r c2') R, ops := opIns x.S (lc A) (lk A) r :: x.S.ops }) h.good h.ops rfl rfl rfl rfl rfl (opIns_ok h.good h.ops c3' c2' hC.1) (mk_ins h.good h.ops c2' hC.1)
    exact ⟨rfl, after_write h (CpAt.unlock hS2 hk) hF (h1.sameOps _) h2 rfl rfl rfl h3 h4 (g1.sameOps _) (by show ((A ++ behind (newEl x.S r c2') R).length : Int) ≤ sumcl _; rw [g2]; show _ ≤ sumcl { x.S with cl := bump x.S.cl (x.S.s - 1), g := x.S.g + 1, L := A ++ behind (newEl x.S r c2') R }; rw [hs]; omega) (by show _ ≤ sumcl { x.S with cl := bump x.S.cl (x.S.s - 1), g := x.S.g + 1, L := A ++ behind (newEl x.S r c2') R }; rw [hs]; omega) hop rfl⟩

theorem pair_del (x : Pr) (p : Int) (w : World) (h : PairAt x w) :
    ∃ code : Int, Calls Tryz.prog 82 #[.pointer (some ⟨x.cb, 0, none⟩), .int .i64 p] w fun e w1 => e = .returned (.int .i64 code) ∧ Fr x.own w w1 ∧
      Calls Tryz.prog 92 #[.pointer (some ⟨x.yb, 0, none⟩), .int .i64 p] w1 fun e2 w2 => e2 = .returned (.int .i64 code) ∧ After x w w2 := by
  obtain ⟨l1, l2⟩ := h.l1000
  have err : ∀ (c : Int), (∀ w1, StAt x.sb x.ma x.mp x.lb x.mb x.S w1 → Calls Tryz.prog 110 #[.pointer (some ⟨x.sb, 0, none⟩), .int .i64 p] w1 fun e w2 => e = .returned (.int .i64 c) ∧ Below w1.heap.size w1 w2) →
      (∀ w1, RefAt x.yb x.S x.vc x.vl x.vw x.vL x.log x.wr w1 → Calls Tryz.prog 92 #[.pointer (some ⟨x.yb, 0, none⟩), .int .i64 p] w1 fun e w2 => e = .returned (.int .i64 c) ∧ Below w1.heap.size w1 w2) →
      Calls Tryz.prog 82 #[.pointer (some ⟨x.cb, 0, none⟩), .int .i64 p] w fun e w1 => e = .returned (.int .i64 c) ∧ Fr x.own w w1 ∧
        Calls Tryz.prog 92 #[.pointer (some ⟨x.yb, 0, none⟩), .int .i64 p] w1 fun e2 w2 => e2 = .returned (.int .i64 c) ∧ After x w w2 := by
    intro c hin href
    refine (face_del x.cb x.sb x.ma x.mp x.lb x.mb x.S p w h.cp (.int .i64 c) (fun w2 => StAt x.sb x.ma x.mp x.lb x.mb x.S w2) (fun w1 _ hS => ?_)).mono ?_
    · refine (hin w1 hS).mono ?_
      rintro e w2 ⟨rfl, hB⟩
      exact ⟨rfl, hS.below hB, Fr.ofBelow hB⟩
    · rintro e w' ⟨rfl, w2, hS2, hk, rfl, hF⟩
      refine ⟨rfl, hF.mono (own4_sub x), (href _ (ref_after h hF)).mono ?_⟩
      rintro e w3 ⟨rfl, hB⟩
      exact ⟨rfl, after_same h (CpAt.unlock hS2 hk) hF hB⟩
  by_cases c1 : p < 0 ∨ ((vis x.S.L).length : Int) ≤ p
  · exact ⟨3, err 3 (fun w1 hS => stDel_place _ _ _ _ _ x.S p w1 hS h.good.len c1) (fun w1 hr => ref_del_place _ _ _ _ _ _ _ _ p w1 hr (by omega) c1)⟩
  by_cases c3 : decide (100 ≤ x.S.cl (x.S.s - 1) ∨ 1099511627776 ≤ x.S.g) = true
  · exact ⟨5, err 5 (fun w1 hS => stDel_full _ _ _ _ _ x.S h.good p w1 hS (by omega) (by omega) c3) (fun w1 hr => ref_del_full _ _ h.good _ _ _ _ _ _ p w1 hr (by omega) (by omega) (by omega) c3)⟩
  have c3' : decide (100 ≤ x.S.cl (x.S.s - 1) ∨ 1099511627776 ≤ x.S.g) = false := by simpa using c3
  refine ⟨0, (face_del x.cb x.sb x.ma x.mp x.lb x.mb x.S p w h.cp (.int .i64 0) (fun w2 => ∃ A z R, x.S.L = A ++ z :: R ∧ (vis A).length = p.toNat ∧ z.d = false ∧ StAt x.sb x.ma x.mp x.lb x.mb { x.S with cl := bump x.S.cl (x.S.s - 1), g := x.S.g + 1, L := A ++ gone z :: R, ops := opDel x.S z.c z.k :: x.S.ops } w2) (fun w1 _ hS => ?_)).mono ?_⟩
  · refine (stDel_ok _ _ _ _ _ x.S h.good p w1 hS (by omega) (by omega) c3').mono ?_
    rintro e w2 ⟨rfl, A, z, R, hL, hA, hd, hS2, hF2⟩
    exact ⟨rfl, ⟨A, z, R, hL, hA, hd, hS2⟩, hF2⟩
  · rintro e w' ⟨rfl, w2, ⟨A, z, R, hL, hA, hd, hS2⟩, hk, rfl, hF⟩
    refine ⟨rfl, hF.mono (own4_sub x), (ref_del_ok _ _ h.good h.apart _ _ _ _ _ _ p _ (ref_after h hF) (by omega) (by omega) (by omega) c3' A R z hL hA hd).mono ?_⟩
    rintro e w3 ⟨rfl, vl', vL', vk, h1, h2, h3, h4⟩
    obtain ⟨g1, g2⟩ := good_del h.good l1 c3' hL
    have hs := sum_bump x.S (x.S.g + 1) (A ++ gone z :: R) (x.S.s - 1) (by have := h.good.s1; have := h.good.sn; have := h.good.n8; omega)
    have hl := h.len
    have hlg := h.log
    have hop := ops_push (S' := { x.S with cl := bump x.S.cl (x.S.s - 1), g := x.S.g + 1, L := A ++ gone z :: R, ops := opDel x.S z.c z.k :: x.S.ops }) h.good h.ops rfl rfl rfl rfl rfl (opDel_ok h.good h.ops c3' hL) (mk_del h.ops hL)
    exact ⟨rfl, after_write h (CpAt.unlock hS2 hk) hF (h1.sameOps _) h2 rfl rfl rfl h3 h4 (g1.sameOps _) (by show ((A ++ gone z :: R).length : Int) ≤ sumcl _; rw [g2]; show _ ≤ sumcl { x.S with cl := bump x.S.cl (x.S.s - 1), g := x.S.g + 1, L := A ++ gone z :: R }; rw [hs]; omega) (by show _ ≤ sumcl { x.S with cl := bump x.S.cl (x.S.s - 1), g := x.S.g + 1, L := A ++ gone z :: R }; rw [hs]; omega) hop rfl⟩

end Go.Proofs.YtachmkhbbbmioaaGreat

import Derived.Test.YtachmkhbbbmioaaGreatCpNew
import Derived.WideLaws
namespace Go.Proofs.YtachmkhbbbmioaaGreat
open Go.RowKit Go.Shelf Go.MuLone

/-- What New answers. -/
def newCode (n s : Int) : Int := if n < 1 ∨ 8 < n then 1 else if s < 1 ∨ n < s then 2 else 0

set_option maxRecDepth 100000 in
set_option maxHeartbeats 1000000 in
theorem stNew_bad (n s : Int) (h : newCode n s ≠ 0) (w : World) :
    Calls Tryz.prog 68 #[.agg #[.int .i64 n, .int .i64 s]] w fun e w' => e = .returned (.tuple #[.pointer none, .int .i64 (newCode n s)]) ∧ w.grownBy w' none := by
  have g0 : w.grownBy (w.alloc (.cells #[.int .i64 n, .int .i64 s] 77)) none := grown_alloc (grown_refl _) _
  unfold newCode at h ⊢
  by_cases h1 : n < 1
  · rw [if_pos (.inl h1)]
    go_enter Tryz.func68, Tryz.ntmps68
    go_wp2_with fail
    go_ret2
    exact ⟨rfl, g0⟩
  · by_cases h2 : 8 < n
    · rw [if_pos (.inr h2)]
      go_enter Tryz.func68, Tryz.ntmps68
      go_wp2_with fail
      go_ret2
      exact ⟨rfl, g0⟩
    · rw [if_neg (by omega)] at h ⊢
      by_cases h3 : s < 1
      · rw [if_pos (.inl h3)]
        go_enter Tryz.func68, Tryz.ntmps68
        go_wp2_with fail
        go_ret2
        exact ⟨rfl, g0⟩
      · by_cases h4 : n < s
        · rw [if_pos (.inr h4)]
          go_enter Tryz.func68, Tryz.ntmps68
          go_wp2_with fail
          go_ret2
          exact ⟨rfl, g0⟩
        · rw [if_neg (by omega)] at h
          exact (h rfl).elim

set_option maxRecDepth 100000 in
set_option maxHeartbeats 1000000 in
theorem cpNew_bad (n s : Int) (h : newCode n s ≠ 0) (w : World) :
    Calls Tryz.prog 35 #[.agg #[.int .i64 n, .int .i64 s]] w fun e w' => e = .returned (.tuple #[.pointer none, .int .i64 (newCode n s)]) ∧ w.grownBy w' none := by
  have hN := hide (fun w => stNew_bad n s h w)
  have g0 : w.grownBy (w.alloc (.cells #[.int .i64 n, .int .i64 s] 77)) none := grown_alloc (grown_refl _) _
  have hne : (newCode n s != 0) = true := by simpa using h
  generalize newCode n s = c at hN hne ⊢
  clear h
  go_enter Tryz.func35, Tryz.ntmps35
  go_wp2_with fail
  refine (hN.out _).mono ?_
  rintro e w1 ⟨rfl, hg⟩
  go_wp2_with fail
  go_ret2
  exact ⟨rfl, grown_trans g0 hg⟩

set_option maxRecDepth 100000 in
set_option maxHeartbeats 1000000 in
theorem stPending_any (sb ma mp lb mb : Nat) (S : CS) (w : World) (hS : StAt sb ma mp lb mb S w) :
    Calls Tryz.prog 80 #[.pointer (some ⟨sb, 0, none⟩)] w fun e w' => e = .returned (.int .i64 S.wt.length) ∧ Below w.heap.size w w' := by
  have c1 : w.cell? ⟨sb, 12, none⟩ = some (.map (some mp)) := cell_blk hS.st 12
  obtain ⟨EP, ⟨n, hp⟩, hPI⟩ := hS.pen
  have hlen : (Builtin.len_ #[135] 3 #[.map (some mp)]).run Tryz.prog w = .ok (.int .i64 S.wt.length) w := by
    rw [run_len_map (w := w) _ _ mp _ n (by kernel_rfl) hp, ← hPI.len]
    simp [goInt]
  go_enter Tryz.func80, Tryz.ntmps80
  go_wp2_with fail
  go_ret
  exact ⟨rfl, Below.refl _ _⟩

set_option maxRecDepth 100000 in
set_option maxHeartbeats 1000000 in
theorem face_pending (cb sb ma mp lb mb : Nat) (S : CS) (w : World) (h : CpAt cb sb ma mp lb mb S w) (v : Value) (Post : World → Prop)
    (hin : ∀ w1, w1.heap.size = w.heap.size → StAt sb ma mp lb mb S w1 → Calls Tryz.prog 80 #[.pointer (some ⟨sb, 0, none⟩)] w1 fun e w2 => e = .returned v ∧ Post w2 ∧ Fr (own3 sb ma mb) w1 w2) :
    Calls Tryz.prog 49 #[.pointer (some ⟨cb, 0, none⟩)] w fun e w' => e = .returned v ∧ ∃ w2, Post w2 ∧ w2.heap[cb]? = some (.cells #[.int .i32 1, .int .u32 0, .pointer (some ⟨sb, 0, none⟩)] 112) ∧ w' = w2.setCell ⟨cb, 0, none⟩ (.int .i32 0) ∧ Fr (own4 cb sb ma mb) w w' := by
  have c0 : w.cell? ⟨cb, 0, none⟩ = some (.int .i32 0) := cell_blk h.cp 0
  have f0 : w.frozen? ⟨cb, 0, none⟩ = false := frozen_blk h.cp 0
  obtain ⟨n1, n2, n3, n4, n5⟩ := h.ne
  have hS1 := h.locked (.int .i32 1)
  have k1 : (w.setCell ⟨cb, 0, none⟩ (.int .i32 1)).heap[cb]? = some (.cells #[.int .i32 1, .int .u32 0, .pointer (some ⟨sb, 0, none⟩)] 112) := by rw [set_blk h.cp]; rfl
  have c2 : (w.setCell ⟨cb, 0, none⟩ (.int .i32 1)).cell? ⟨cb, 2, none⟩ = some (.pointer (some ⟨sb, 0, none⟩)) := cell_blk k1 2
  have hF1 : Fr (own4 cb sb ma mb) w (w.setCell ⟨cb, 0, none⟩ (.int .i32 1)) := (Fr.refl _ w).setCell (.inl (by simp)) _
  have hC := hide (hin (w.setCell ⟨cb, 0, none⟩ (.int .i32 1)) (by simp [World.setCell]) hS1)
  clear hin
  go_enter_defers Tryz.func49, Tryz.ntmps49
  go_wp2_with (go_at_call 59; refine (lock_free muLib ⟨cb, 0, none⟩ _ c0 f0).mono ?_; rintro e w' ⟨rfl, rfl⟩)
  refine hC.out.mono ?_
  rintro e w2 ⟨rfl, hP, hF2⟩
  have k2 : w2.heap[cb]? = some (.cells #[.int .i32 1, .int .u32 0, .pointer (some ⟨sb, 0, none⟩)] 112) := hF2.blk k1 (by simp [n1, n2, n5])
  go_wp2_with fail
  refine leaves_cons (f := 60) (args := #[.pointer (some ⟨cb, 0, none⟩)]) (by simp) (by simp [go_sem]) ?_
  refine (unlock_deferred muLib ⟨cb, 0, none⟩ .returning _ (cell_blk k2 0) (frozen_blk k2 0)).mono ?_
  rintro e u' w3 ⟨rfl, rfl, rfl⟩
  exact ⟨_, results_tmp rfl _ _ _, rfl, w2, hP, k2, rfl, (hF1.trans (hF2.mono (by simp))).setCell (.inl (by simp)) _⟩

end Go.Proofs.YtachmkhbbbmioaaGreat

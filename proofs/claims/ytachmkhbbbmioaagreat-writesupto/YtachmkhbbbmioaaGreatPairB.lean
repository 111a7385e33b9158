import Derived.Test.YtachmkhbbbmioaaGreatPair
namespace Go.Proofs.YtachmkhbbbmioaaGreat
open Go.RowKit Go.Shelf

theorem pair_prog {x : Pr} {w w1 : World} (h : PairAt x w) (hc : CpAt x.cb x.sb x.ma x.mp x.lb x.mb x.S w1) (hF : Fr (own4 x.cb x.sb x.ma x.mb) w w1) : PairAt x w1 ∧ Fr x.own w w1 :=
  ⟨⟨hc, ref_after h hF, h.good, h.len, h.log, h.ops, lg_prog h hF, h.kd, wl_prog h hF, h.wo⟩, hF.mono (own4_sub x)⟩

theorem PairAt.below {x : Pr} {w w1 : World} (h : PairAt x w) (hB : Below w.heap.size w w1) : PairAt x w1 := h.kept (fun k hk => hB.block k (h.lt k hk))

theorem ask_text (x : Pr) (w : World) (h : PairAt x w) :
    Calls Tryz.prog 26 #[.pointer (some ⟨x.cb, 0, none⟩)] w fun e w1 => e = .returned (.string ⟨(txt (vis x.S.L)).toArray⟩) ∧ PairAt x w1 ∧ Fr x.own w w1 := by
  refine (face_text x.cb x.sb x.ma x.mp x.lb x.mb x.S w h.cp (.string ⟨(txt (vis x.S.L)).toArray⟩) (fun w2 => StAt x.sb x.ma x.mp x.lb x.mb x.S w2) (fun w1 _ hS => ?_)).mono ?_
  · refine (stText_any _ _ _ _ _ x.S w1 hS h.good.len).mono ?_
    rintro e w2 ⟨rfl, hB⟩
    exact ⟨rfl, hS.below hB, Fr.ofBelow hB⟩
  · rintro e w' ⟨rfl, w2, hS2, hk, rfl, hF⟩
    exact ⟨rfl, pair_prog h (CpAt.unlock hS2 hk) hF⟩

theorem ask_len (x : Pr) (w : World) (h : PairAt x w) :
    Calls Tryz.prog 44 #[.pointer (some ⟨x.cb, 0, none⟩)] w fun e w1 => e = .returned (.int .i64 (vis x.S.L).length) ∧ PairAt x w1 ∧ Fr x.own w w1 := by
  refine (face_len x.cb x.sb x.ma x.mp x.lb x.mb x.S w h.cp (.int .i64 (vis x.S.L).length) (fun w2 => StAt x.sb x.ma x.mp x.lb x.mb x.S w2) (fun w1 _ hS => ?_)).mono ?_
  · refine (stLen_any _ _ _ _ _ x.S w1 hS h.good.len).mono ?_
    rintro e w2 ⟨rfl, hB⟩
    exact ⟨rfl, hS.below hB, Fr.ofBelow hB⟩
  · rintro e w' ⟨rfl, w2, hS2, hk, rfl, hF⟩
    exact ⟨rfl, pair_prog h (CpAt.unlock hS2 hk) hF⟩

theorem ask_pending (x : Pr) (w : World) (h : PairAt x w) :
    Calls Tryz.prog 49 #[.pointer (some ⟨x.cb, 0, none⟩)] w fun e w1 => e = .returned (.int .i64 x.S.wt.length) ∧ PairAt x w1 ∧ Fr x.own w w1 := by
  refine (face_pending x.cb x.sb x.ma x.mp x.lb x.mb x.S w h.cp (.int .i64 x.S.wt.length) (fun w2 => StAt x.sb x.ma x.mp x.lb x.mb x.S w2) (fun w1 _ hS => ?_)).mono ?_
  · refine (stPending_any _ _ _ _ _ x.S w1 hS).mono ?_
    rintro e w2 ⟨rfl, hB⟩
    exact ⟨rfl, hS.below hB, Fr.ofBelow hB⟩
  · rintro e w' ⟨rfl, w2, hS2, hk, rfl, hF⟩
    exact ⟨rfl, pair_prog h (CpAt.unlock hS2 hk) hF⟩

theorem cl_flat (S : CS) : (ckRow S).flatten = clCells S := by
  unfold ckRow clCells
  induction List.range S.n with
  | nil => rfl
  | cons a l ih => rw [List.map_cons, List.flatten_cons, ih, List.map_cons]; rfl

theorem ask_clock (x : Pr) (w : World) (h : PairAt x w) :
    Calls Tryz.prog 28 #[.pointer (some ⟨x.cb, 0, none⟩)] w fun e w1 => e = .returned (.slice (some ⟨w.heap.size, 0, none⟩) x.S.n x.S.n) ∧ RowAt 3 1 (.slice (some ⟨w.heap.size, 0, none⟩) x.S.n x.S.n) (ckRow x.S) w1 ∧ PairAt x w1 ∧ Fr x.own w w1 := by
  refine (face_clock x.cb x.sb x.ma x.mp x.lb x.mb x.S w h.cp (.slice (some ⟨w.heap.size, 0, none⟩) x.S.n x.S.n) (fun w2 => StAt x.sb x.ma x.mp x.lb x.mb x.S w2 ∧ w2.heap[w.heap.size]? = some (.cells (clCells x.S).toArray 3)) (fun w1 hs hS => ?_)).mono ?_
  · refine (stClock_any _ _ _ _ _ x.S h.good w1 hS).mono ?_
    rintro e w2 ⟨rfl, hc, hB⟩
    rw [← hs]
    exact ⟨rfl, ⟨hS.below hB, hc⟩, Fr.ofBelow hB⟩
  · rintro e w' ⟨rfl, w2, ⟨hS2, hc⟩, hk, rfl, hF⟩
    have hlt := lt_of_heap h.cp.cp
    have h8 := h.good.n8
    have hb : (w2.setCell ⟨x.cb, 0, none⟩ (.int .i32 0)).heap[w.heap.size]? = some (.cells (clCells x.S).toArray 3) := by rw [Below.heap_setCell _ _ _ _ (by simp; omega)]; exact hc
    refine ⟨rfl, ⟨⟨by rw [cl_flat, ckRow_len]; simp [clCells], .inr ⟨_, _, _, by rw [ckRow_len], Nat.zero_le _, hb, by rw [ckRow_len]; exact Nat.le_refl _, by unfold maxLen; omega, by simp [clCells], ?_⟩⟩, ?_⟩, pair_prog h (CpAt.unlock hS2 hk) hF⟩
    · rw [cl_flat, ckRow_len]; exact List.take_of_length_le (by simp [clCells])
    · intro y hy
      obtain ⟨i, -, rfl⟩ := List.mem_map.1 hy
      rfl

theorem ck_at (S : CS) {i : Nat} (h : i < (ckRow S).length) : (ckRow S)[i]? = some [.int .i64 (S.cl i)] := ckRow_at S (by rwa [ckRow_len] at h)

set_option maxRecDepth 100000 in
set_option maxHeartbeats 1000000 in
theorem same_ints (S : CS) (h8 : S.n ≤ 8) (v u : Value) (w : World) (hv : RowAt 3 1 v (ckRow S) w) (hu : RowAt 3 1 u (ckRow S) w) :
    Calls Tryz.prog 46 #[v, u] w fun e w' => e = .returned (.bool true) ∧ w.grownBy w' none := by
  obtain ⟨av, cv, rfl, hcv⟩ := hv.value
  obtain ⟨au, cu, rfl, hcu⟩ := hu.value
  rw [ckRow_len] at hv hu hcv hcu ⊢
  have hne : ((S.n : Int) != (S.n : Int)) = false := by simp
  go_enter Tryz.func46, Tryz.ntmps46
  go_wp2_with fail
  go_loopg [5] S.n (fun g s5 wr => ∃ (i : Nat), s5 = .int .i64 i ∧ i ≤ S.n ∧ g = S.n - i ∧ w.grownBy wr none)
  case atStart => exact ⟨0, rfl, by omega, rfl, grown_refl _⟩
  case round =>
    obtain ⟨i, rfl, hi, hgk, hG⟩ := hrel
    by_cases hlt : i < S.n
    · have hli : (i : Int) < (S.n : Int) := by omega
      obtain ⟨g1, c1, cur1, hv1, -, hb1, hx1⟩ := (hv.grown hG).cell (i := i) (ckRow_at S hlt)
      obtain ⟨g2, c2, cur2, hv2, -, hb2, hx2⟩ := (hu.grown hG).cell (i := i) (ckRow_at S hlt)
      rw [ckRow_len] at hv1 hv2
      cases hv1
      cases hv2
      have k1 : wr.cell? ⟨g1, i, none⟩ = some (.int .i64 (S.cl i)) := (cell_blk hb1 _).trans (by simpa using hx1 0 _ rfl)
      have k2 : wr.cell? ⟨g2, i, none⟩ = some (.int .i64 (S.cl i)) := (cell_blk hb2 _).trans (by simpa using hx2 0 _ rfl)
      have hn2 : (S.cl i != S.cl i) = false := by simp
      go_wp2_with fail
      go_quiet (fail)
      go_wp2_with fail
      go_roundg (S.n - (i + 1))
      case measure => omega
      case rel => exact ⟨i + 1, by go_num, by omega, rfl, grown_trans hG (grown_drewN _ _)⟩
    · go_wp2_with fail
      go_ret
      exact ⟨rfl, hG⟩

/-- A list that is full of one number. -/
def fullRow (n : Nat) (m : Int) : List (List Value) := List.replicate n [.int .i64 m]
theorem fullRow_len (n : Nat) (m : Int) : (fullRow n m).length = n := by simp [fullRow]
theorem fullRow_at {n i : Nat} {m : Int} (h : i < n) : (fullRow n m)[i]? = some [.int .i64 m] := by simp [fullRow, h]

set_option maxRecDepth 100000 in
set_option maxHeartbeats 1000000 in
theorem full_ints (n : Nat) (h8 : n ≤ 1000) (m : Int) (v : Value) (w : World) (hv : RowAt 3 1 v (fullRow n m) w) :
    Calls Tryz.prog 52 #[v, .int .i64 m] w fun e w' => e = .returned (.bool true) ∧ w' = w := by
  obtain ⟨av, cv, rfl, hcv⟩ := hv.value
  rw [fullRow_len] at hv hcv ⊢
  go_enter Tryz.func52, Tryz.ntmps52
  go_wp2_with fail
  go_loopg [5] n (fun g s5 wr => ∃ (i : Nat), s5 = .int .i64 i ∧ i ≤ n ∧ g = n - i ∧ wr = w)
  case atStart => exact ⟨0, rfl, by omega, rfl, rfl⟩
  case round =>
    obtain ⟨i, rfl, hi, hgk, hw⟩ := hrel
    rw [hw]
    clear hw wr
    by_cases hlt : i < n
    · have hli : (i : Int) < (n : Int) := by omega
      obtain ⟨g1, c1, cur1, hv1, -, hb1, hx1⟩ := hv.cell (i := i) (fullRow_at hlt)
      rw [fullRow_len] at hv1
      cases hv1
      have k1 : w.cell? ⟨g1, i, none⟩ = some (.int .i64 m) := (cell_blk hb1 _).trans (by simpa using hx1 0 _ rfl)
      have hn2 : (m != m) = false := by simp
      go_wp2_with fail
      go_roundg (n - (i + 1))
      case measure => omega
      case rel => exact ⟨i + 1, by go_num, by omega, rfl, rfl⟩
    · go_wp2_with fail
      go_ret
      exact ⟨rfl, rfl⟩

end Go.Proofs.YtachmkhbbbmioaaGreat

import Derived.Test.YtachmkhbbbmioaaGreatWrite
import Derived.Test.YtachmkhbbbmioaaGreatText
namespace Go.Proofs.YtachmkhbbbmioaaGreat
open Go.RowKit Go.Shelf

theorem StAt.drewN {sb ma mp lb mb : Nat} {S : CS} {w : World} (h : StAt sb ma mp lb mb S w) (n : Nat) : StAt sb ma mp lb mb S (w.drewN n) := h.kept (fun _ _ => rfl)

theorem valid_sc {r : Int} (h : Lib.validRune r = true) : Sc r := by
  unfold Lib.validRune at h
  simp at h
  unfold Sc
  omega

/-- Where the rune p - 1 stands, and what lies behind it. -/
theorem split_vis : ∀ (L : List El) (p : Nat), p ≤ (vis L).length → ∃ A R, L = A ++ R ∧ (vis A).length = p ∧ (p = 0 → A = []) ∧ (∀ p', p = p' + 1 → ∃ x, (vis L)[p']? = some x ∧ lc A = x.c ∧ lk A = x.k)
  | L, 0, _ => ⟨[], L, rfl, rfl, fun _ => rfl, fun p' h => by omega⟩
  | [], p + 1, h => by simp [vis] at h
  | x :: L, p + 1, h => by
    cases hx : x.d with
    | false =>
      rw [vis_cons_there hx] at h
      obtain ⟨A, R, h1, h2, h3, h4⟩ := split_vis L p (by simpa using h)
      refine ⟨x :: A, R, by rw [h1]; rfl, by rw [vis_cons_there hx]; simp [h2], fun q => by omega, fun p' hp' => ?_⟩
      cases p with
      | zero =>
        obtain rfl : p' = 0 := by omega
        rw [h3 rfl]
        exact ⟨x, by rw [vis_cons_there hx]; rfl, rfl, rfl⟩
      | succ m =>
        obtain rfl : p' = m + 1 := by omega
        obtain ⟨y, hy, e1, e2⟩ := h4 m rfl
        refine ⟨y, by rw [vis_cons_there hx]; simpa using hy, ?_, ?_⟩
        · cases A with
          | nil => simp [vis] at h2
          | cons z A => exact e1
        · cases A with
          | nil => simp [vis] at h2
          | cons z A => exact e2
    | true =>
      rw [vis_cons_gone hx] at h
      obtain ⟨A, R, h1, h2, h3, h4⟩ := split_vis L (p + 1) h
      refine ⟨x :: A, R, by rw [h1]; rfl, by rw [vis_cons_gone hx]; exact h2, fun q => by omega, fun p' hp' => ?_⟩
      obtain ⟨y, hy, e1, e2⟩ := h4 p' hp'
      refine ⟨y, by rw [vis_cons_gone hx]; exact hy, ?_, ?_⟩
      · cases A with
        | nil => simp [vis] at h2
        | cons z A => exact e1
      · cases A with
        | nil => simp [vis] at h2
        | cons z A => exact e2

theorem StAt.line {sb ma mp lb mb : Nat} {S : CS} {w : World} (h : StAt sb ma mp lb mb S w) : w.cell? ⟨sb, 13, none⟩ = some (.pointer (some ⟨lb, 0, none⟩)) := cell_blk h.st 13

/-- The line's Len, over a state. -/
theorem lenS (sb ma mp lb mb : Nat) (S : CS) (w : World) (hS : StAt sb ma mp lb mb S w) (hb : (vis S.L).length ≤ 1000000) :
    Calls Tryz.prog 104 #[.pointer (some ⟨lb, 0, none⟩)] w fun e w' => e = .returned (.int .i64 (vis S.L).length) ∧ Below w.heap.size w w' := by
  obtain ⟨E, h1, h2⟩ := hS.ln
  exact len_any lb mb E S.L w h1 h2 hb
theorem textS (sb ma mp lb mb : Nat) (S : CS) (w : World) (hS : StAt sb ma mp lb mb S w) (hb : (vis S.L).length ≤ 1000000) :
    Calls Tryz.prog 85 #[.pointer (some ⟨lb, 0, none⟩)] w fun e w' => e = .returned (.string ⟨(txt (vis S.L)).toArray⟩) ∧ Below w.heap.size w w' := by
  obtain ⟨E, h1, h2⟩ := hS.ln
  exact text_any lb mb E S.L w h1 h2 hb
theorem markS (sb ma mp lb mb : Nat) (S : CS) (p : Nat) (x : El) (w : World) (hS : StAt sb ma mp lb mb S w) (hb : (vis S.L).length ≤ 1000000) (hx : (vis S.L)[p]? = some x) :
    Calls Tryz.prog 108 #[.pointer (some ⟨lb, 0, none⟩), .int .i64 p] w fun e w' => e = .returned (.agg #[.int .i64 x.c, .int .i64 x.k]) ∧ Below w.heap.size w w' := by
  obtain ⟨E, h1, h2⟩ := hS.ln
  exact markAt_any lb mb E S.L p x w h1 h2 hb hx

set_option maxRecDepth 100000 in
set_option maxHeartbeats 1000000 in
theorem stLen_any (sb ma mp lb mb : Nat) (S : CS) (w : World) (hS : StAt sb ma mp lb mb S w) (hb : (vis S.L).length ≤ 1000000) :
    Calls Tryz.prog 78 #[.pointer (some ⟨sb, 0, none⟩)] w fun e w' => e = .returned (.int .i64 (vis S.L).length) ∧ Below w.heap.size w w' := by
  have c1 := hS.line
  have h := lenS sb ma mp lb mb S w hS hb
  go_enter Tryz.func78, Tryz.ntmps78
  go_wp2_with (go_at_call 104; refine h.mono ?_; rintro e w1 ⟨rfl, hB⟩)
  go_ret
  exact ⟨rfl, hB⟩

set_option maxRecDepth 100000 in
set_option maxHeartbeats 1000000 in
theorem stText_any (sb ma mp lb mb : Nat) (S : CS) (w : World) (hS : StAt sb ma mp lb mb S w) (hb : (vis S.L).length ≤ 1000000) :
    Calls Tryz.prog 61 #[.pointer (some ⟨sb, 0, none⟩)] w fun e w' => e = .returned (.string ⟨(txt (vis S.L)).toArray⟩) ∧ Below w.heap.size w w' := by
  have c1 := hS.line
  have h := textS sb ma mp lb mb S w hS hb
  go_enter Tryz.func61, Tryz.ntmps61
  go_wp2_with (go_at_call 85; refine h.mono ?_; rintro e w1 ⟨rfl, hB⟩)
  go_ret
  exact ⟨rfl, hB⟩

set_option maxRecDepth 100000 in
set_option maxHeartbeats 1000000 in
/-- Insert at a place that there is not. -/
theorem stIns_place (sb ma mp lb mb : Nat) (S : CS) (p r : Int) (w : World) (hS : StAt sb ma mp lb mb S w) (hb : (vis S.L).length ≤ 1000000) (hp : p < 0 ∨ (vis S.L).length < p) :
    Calls Tryz.prog 81 #[.pointer (some ⟨sb, 0, none⟩), .int .i64 p, .int .i32 r] w fun e w' => e = .returned (.int .i64 3) ∧ Below w.heap.size w w' := by
  have c1 := hS.line
  have h := lenS sb ma mp lb mb S w hS hb
  by_cases h0 : p < 0
  · go_enter Tryz.func81, Tryz.ntmps81
    go_wp2_with fail
    go_ret
    exact ⟨rfl, Below.refl _ _⟩
  · have h1 : ((vis S.L).length : Int) < p := by omega
    go_enter Tryz.func81, Tryz.ntmps81
    go_wp2_with (go_at_call 104; refine h.mono ?_; rintro e w1 ⟨rfl, hB⟩)
    go_ret
    exact ⟨rfl, hB⟩

set_option maxRecDepth 100000 in
set_option maxHeartbeats 1000000 in
/-- Insert of what is no rune. -/
theorem stIns_rune (sb ma mp lb mb : Nat) (S : CS) (p r : Int) (w : World) (hS : StAt sb ma mp lb mb S w) (hb : (vis S.L).length ≤ 1000000) (hp0 : 0 ≤ p) (hp : p ≤ (vis S.L).length) (hr : Lib.validRune r = false) :
    Calls Tryz.prog 81 #[.pointer (some ⟨sb, 0, none⟩), .int .i64 p, .int .i32 r] w fun e w' => e = .returned (.int .i64 4) ∧ Below w.heap.size w w' := by
  have c1 := hS.line
  have h := lenS sb ma mp lb mb S w hS hb
  have hV := fun w => utf8_ValidRune r w
  rw [hr] at hV
  clear hr
  go_enter Tryz.func81, Tryz.ntmps81
  go_wp2_with (first | (go_at_call 104; refine h.mono ?_; rintro e w1 ⟨rfl, hB⟩) | (go_at_call 105; refine (hV _).mono ?_; rintro e w2 ⟨rfl, rfl⟩))
  go_ret
  exact ⟨rfl, hB⟩

end Go.Proofs.YtachmkhbbbmioaaGreat

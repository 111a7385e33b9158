import Derived.Test.YtachmkhbbbmioaaGreatFullX
import Derived.StillTailTactics
import Derived.Test.YtachmkhbbbmioaaGreatText
namespace Go.Proofs.YtachmkhbbbmioaaGreat
open Go.RowKit Go.Shelf
attribute [local go_sem ↓] Go.wp_at_zero Go.wp_at_succ
attribute [local simp] entsAt_drew entsAt_setCell entsAt_alloc

set_option maxRecDepth 100000 in
set_option maxHeartbeats 2000000 in
theorem write_ins (sb ma mp lb mb : Nat) (S : CS) (A R : List El) (e : El) (w : World) (hS : StAt sb ma mp lb mb S w) (h1 : 1 ≤ S.s) (h8 : S.s ≤ 8) (hv : 0 ≤ S.cl (S.s - 1)) (hv2 : S.cl (S.s - 1) ≤ 1000) (hg : 0 ≤ S.g) (hg2 : S.g ≤ 1099511627776)
    (hL : S.L = A ++ R) (hec : e.c = S.g + 1) (hek : e.k = S.s) (hf : fresh e (A ++ R)) (hd : e.d = false) :
    Calls Tryz.prog 109 #[.pointer (some ⟨sb, 0, none⟩), .int .i64 0, .agg #[.int .i64 (lc A), .int .i64 (lk A)], .int .i32 e.r] w fun r w' => r = .returned (.tuple #[]) ∧
      StAt sb ma mp lb mb { S with cl := bump S.cl (S.s - 1), g := S.g + 1, L := A ++ behind e R, ops := opIns S (lc A) (lk A) e.r :: S.ops } w' ∧ Fr (own3 sb ma mb) w w' := by
  go_enter Tryz.func109, Tryz.ntmps109
  go_wp2_with fail
  have hlt := hS.lts
  have g1 := grown_alloc (grown_refl w) (.cells #[.int .i64 (lc A), .int .i64 (lk A)] 152)
  have k3 : (w.alloc (.cells #[.int .i64 (lc A), .int .i64 (lk A)] 152)).heap[w.heap.size]? = some (.cells #[.int .i64 (lc A), .int .i64 (lk A)] 152) := by rw [heap_alloc_at]; simp
  have hS1 := hS.grown g1
  have hF1 : Fr (own3 sb ma mb) w (w.alloc (.cells #[.int .i64 (lc A), .int .i64 (lk A)] 152)) := (Fr.refl _ w).alloc _
  generalize (w.alloc (.cells #[.int .i64 (lc A), .int .i64 (lk A)] 152)) = w1 at g1 k3 hS1 hF1 ⊢
  have c1 : w1.cell? ⟨sb, 1, none⟩ = some (.int .i64 (S.s : Int)) := cell_blk hS1.st 1
  have q0 : w1.cell? ⟨sb, 2, none⟩ = some (.int .i64 (S.cl 0)) := cell_blk hS1.st 2
  have q1 : w1.cell? ⟨sb, 3, none⟩ = some (.int .i64 (S.cl 1)) := cell_blk hS1.st 3
  have q2 : w1.cell? ⟨sb, 4, none⟩ = some (.int .i64 (S.cl 2)) := cell_blk hS1.st 4
  have q3 : w1.cell? ⟨sb, 5, none⟩ = some (.int .i64 (S.cl 3)) := cell_blk hS1.st 5
  have q4 : w1.cell? ⟨sb, 6, none⟩ = some (.int .i64 (S.cl 4)) := cell_blk hS1.st 6
  have q5 : w1.cell? ⟨sb, 7, none⟩ = some (.int .i64 (S.cl 5)) := cell_blk hS1.st 7
  have q6 : w1.cell? ⟨sb, 8, none⟩ = some (.int .i64 (S.cl 6)) := cell_blk hS1.st 8
  have q7 : w1.cell? ⟨sb, 9, none⟩ = some (.int .i64 (S.cl 7)) := cell_blk hS1.st 9
  have c2 : w1.cell? ⟨sb, 10, none⟩ = some (.int .i64 S.g) := cell_blk hS1.st 10
  have t0 : w1.cell? ⟨w.heap.size, 0, none⟩ = some (.int .i64 (lc A)) := cell_blk k3 0
  have t1 : w1.cell? ⟨w.heap.size, 1, none⟩ = some (.int .i64 (lk A)) := cell_blk k3 1
  have c3 : w1.cell? ⟨sb, 2 + ((S.s : Int).toNat - 1), none⟩ = some (.int .i64 (S.cl (S.s - 1))) := by
    have := hS1.clock (S.s - 1) (by omega)
    simpa using this
  have hO := of_any sb 2 (S.s : Int) (by omega) (by omega) (S.cl (S.s - 1)) w1.drew c3
  have hS1d : StAt sb ma mp lb mb S w1.drew := hS1.grown (grown_drew (grown_refl w1))
  have hAp := apply_ins sb ma mp lb mb S (S.cl (S.s - 1) + 1) (S.g + 1) S.s S.cl A R e w1.drew hS1d h1 h8 hv (by omega) hL hec hek hf hd (by omega)
  simp only [opArr] at hAp
  clear hS1d c3 g1 k3 hlt
  refine wp_region_still_tail 28 (by kernel_rfl) (by kernel_rfl) ?_
  simp only [List.take_succ_cons, List.take_zero, List.drop_succ_cons, List.drop_zero]
  iterate 12 still_step
  still_call hO
  iterate 15 still_step
  refine wpStill_nil ?_
  simp only [World.drew_eq]
  go_wp2_with (go_at_call 133; refine hAp.mono ?_; rintro e w2 ⟨rfl, hS2, hF2⟩)
  go_end0
  have em : max S.g (S.g + 1) = S.g + 1 := by omega
  rw [em] at hS2
  exact ⟨rfl, hS2, hF1.drew.trans hF2⟩

set_option maxRecDepth 100000 in
set_option maxHeartbeats 2000000 in
theorem write_del (sb ma mp lb mb : Nat) (S : CS) (A R : List El) (x : El) (w : World) (hS : StAt sb ma mp lb mb S w) (h1 : 1 ≤ S.s) (h8 : S.s ≤ 8) (hv : 0 ≤ S.cl (S.s - 1)) (hv2 : S.cl (S.s - 1) ≤ 1000) (hg : 0 ≤ S.g) (hg2 : S.g ≤ 1099511627776)
    (hL : S.L = A ++ x :: R) :
    Calls Tryz.prog 109 #[.pointer (some ⟨sb, 0, none⟩), .int .i64 1, .agg #[.int .i64 x.c, .int .i64 x.k], .int .i32 0] w fun r w' => r = .returned (.tuple #[]) ∧
      StAt sb ma mp lb mb { S with cl := bump S.cl (S.s - 1), g := S.g + 1, L := A ++ gone x :: R, ops := opDel S x.c x.k :: S.ops } w' ∧ Fr (own3 sb ma mb) w w' := by
  go_enter Tryz.func109, Tryz.ntmps109
  go_wp2_with fail
  have hlt := hS.lts
  have g1 := grown_alloc (grown_refl w) (.cells #[.int .i64 x.c, .int .i64 x.k] 152)
  have k3 : (w.alloc (.cells #[.int .i64 x.c, .int .i64 x.k] 152)).heap[w.heap.size]? = some (.cells #[.int .i64 x.c, .int .i64 x.k] 152) := by rw [heap_alloc_at]; simp
  have hS1 := hS.grown g1
  have hF1 : Fr (own3 sb ma mb) w (w.alloc (.cells #[.int .i64 x.c, .int .i64 x.k] 152)) := (Fr.refl _ w).alloc _
  generalize (w.alloc (.cells #[.int .i64 x.c, .int .i64 x.k] 152)) = w1 at g1 k3 hS1 hF1 ⊢
  have c1 : w1.cell? ⟨sb, 1, none⟩ = some (.int .i64 (S.s : Int)) := cell_blk hS1.st 1
  have q0 : w1.cell? ⟨sb, 2, none⟩ = some (.int .i64 (S.cl 0)) := cell_blk hS1.st 2
  have q1 : w1.cell? ⟨sb, 3, none⟩ = some (.int .i64 (S.cl 1)) := cell_blk hS1.st 3
  have q2 : w1.cell? ⟨sb, 4, none⟩ = some (.int .i64 (S.cl 2)) := cell_blk hS1.st 4
  have q3 : w1.cell? ⟨sb, 5, none⟩ = some (.int .i64 (S.cl 3)) := cell_blk hS1.st 5
  have q4 : w1.cell? ⟨sb, 6, none⟩ = some (.int .i64 (S.cl 4)) := cell_blk hS1.st 6
  have q5 : w1.cell? ⟨sb, 7, none⟩ = some (.int .i64 (S.cl 5)) := cell_blk hS1.st 7
  have q6 : w1.cell? ⟨sb, 8, none⟩ = some (.int .i64 (S.cl 6)) := cell_blk hS1.st 8
  have q7 : w1.cell? ⟨sb, 9, none⟩ = some (.int .i64 (S.cl 7)) := cell_blk hS1.st 9
  have c2 : w1.cell? ⟨sb, 10, none⟩ = some (.int .i64 S.g) := cell_blk hS1.st 10
  have t0 : w1.cell? ⟨w.heap.size, 0, none⟩ = some (.int .i64 x.c) := cell_blk k3 0
  have t1 : w1.cell? ⟨w.heap.size, 1, none⟩ = some (.int .i64 x.k) := cell_blk k3 1
  have c3 : w1.cell? ⟨sb, 2 + ((S.s : Int).toNat - 1), none⟩ = some (.int .i64 (S.cl (S.s - 1))) := by
    have := hS1.clock (S.s - 1) (by omega)
    simpa using this
  have hO := of_any sb 2 (S.s : Int) (by omega) (by omega) (S.cl (S.s - 1)) w1.drew c3
  have hS1d : StAt sb ma mp lb mb S w1.drew := hS1.grown (grown_drew (grown_refl w1))
  have hAp := apply_del sb ma mp lb mb S (S.cl (S.s - 1) + 1) (S.g + 1) S.s S.cl A R x w1.drew hS1d h1 h8 hv (by omega) hL
  simp only [opArr] at hAp
  clear hS1d c3 g1 k3 hlt
  refine wp_region_still_tail 28 (by kernel_rfl) (by kernel_rfl) ?_
  simp only [List.take_succ_cons, List.take_zero, List.drop_succ_cons, List.drop_zero]
  iterate 12 still_step
  still_call hO
  iterate 15 still_step
  refine wpStill_nil ?_
  simp only [World.drew_eq]
  go_wp2_with (go_at_call 133; refine hAp.mono ?_; rintro e w2 ⟨rfl, hS2, hF2⟩)
  go_end0
  have em : max S.g (S.g + 1) = S.g + 1 := by omega
  rw [em] at hS2
  exact ⟨rfl, hS2, hF1.drew.trans hF2⟩

end Go.Proofs.YtachmkhbbbmioaaGreat

namespace Go.Proofs.YtachmkhbbbmioaaGreat
open Go.RowKit Go.Shelf

theorem StAt.drewN {sb ma mp lb mb : Nat} {S : CS} {w : World} (h : StAt sb ma mp lb mb S w) (n : Nat) : StAt sb ma mp lb mb S (w.drewN n) := h.kept (fun _ _ => rfl)

theorem valid_sc {r : Int} (h : Lib.validRune r = true) : Sc r := by
  unfold Lib.validRune at h
  simp at h
  unfold Sc
  omega

/-- Where the rune p - 1 stands, and what lies behind it. -/
theorem split_vis : ∀ (L : List El) (p : Nat), p ≤ (vis L).length → ∃ A R, L = A ++ R ∧ (vis A).length = p ∧ (p = 0 → A = []) ∧ (∀ p', p = p' + 1 → ∃ x, (vis L)[p']? = some x ∧ lc A = x.c ∧ lk A = x.k)
  | L, 0, _ => ⟨[], L, rfl, rfl, fun _ => rfl, fun p' h => by omega⟩
  | [], p + 1, h => by simp [vis] at h
  | x :: L, p + 1, h => by
    cases hx : x.d with
    | false =>
      rw [vis_cons_there hx] at h
      obtain ⟨A, R, h1, h2, h3, h4⟩ := split_vis L p (by simpa using h)
      refine ⟨x :: A, R, by rw [h1]; rfl, by rw [vis_cons_there hx]; simp [h2], fun q => by omega, fun p' hp' => ?_⟩
      cases p with
      | zero =>
        obtain rfl : p' = 0 := by omega
        rw [h3 rfl]
        exact ⟨x, by rw [vis_cons_there hx]; rfl, rfl, rfl⟩
      | succ m =>
        obtain rfl : p' = m + 1 := by omega
        obtain ⟨y, hy, e1, e2⟩ := h4 m rfl
        refine ⟨y, by rw [vis_cons_there hx]; simpa using hy, ?_, ?_⟩
        · cases A with
          | nil => simp [vis] at h2
          | cons z A => exact e1
        · cases A with
          | nil => simp [vis] at h2
          | cons z A => exact e2
    | true =>
      rw [vis_cons_gone hx] at h
      obtain ⟨A, R, h1, h2, h3, h4⟩ := split_vis L (p + 1) h
      refine ⟨x :: A, R, by rw [h1]; rfl, by rw [vis_cons_gone hx]; exact h2, fun q => by omega, fun p' hp' => ?_⟩
      obtain ⟨y, hy, e1, e2⟩ := h4 p' hp'
      refine ⟨y, by rw [vis_cons_gone hx]; exact hy, ?_, ?_⟩
      · cases A with
        | nil => simp [vis] at h2
        | cons z A => exact e1
      · cases A with
        | nil => simp [vis] at h2
        | cons z A => exact e2

theorem StAt.line {sb ma mp lb mb : Nat} {S : CS} {w : World} (h : StAt sb ma mp lb mb S w) : w.cell? ⟨sb, 13, none⟩ = some (.pointer (some ⟨lb, 0, none⟩)) := cell_blk h.st 13

/-- The line's Len, over a state. -/
theorem lenS (sb ma mp lb mb : Nat) (S : CS) (w : World) (hS : StAt sb ma mp lb mb S w) (hb : (vis S.L).length ≤ 1000000) :
    Calls Tryz.prog 104 #[.pointer (some ⟨lb, 0, none⟩)] w fun e w' => e = .returned (.int .i64 (vis S.L).length) ∧ Below w.heap.size w w' := by
  obtain ⟨E, h1, h2⟩ := hS.ln
  exact len_any lb mb E S.L w h1 h2 hb
theorem textS (sb ma mp lb mb : Nat) (S : CS) (w : World) (hS : StAt sb ma mp lb mb S w) (hb : (vis S.L).length ≤ 1000000) :
    Calls Tryz.prog 85 #[.pointer (some ⟨lb, 0, none⟩)] w fun e w' => e = .returned (.string ⟨(txt (vis S.L)).toArray⟩) ∧ Below w.heap.size w w' := by
  obtain ⟨E, h1, h2⟩ := hS.ln
  exact text_any lb mb E S.L w h1 h2 hb
theorem markS (sb ma mp lb mb : Nat) (S : CS) (p : Nat) (x : El) (w : World) (hS : StAt sb ma mp lb mb S w) (hb : (vis S.L).length ≤ 1000000) (hx : (vis S.L)[p]? = some x) :
    Calls Tryz.prog 108 #[.pointer (some ⟨lb, 0, none⟩), .int .i64 p] w fun e w' => e = .returned (.agg #[.int .i64 x.c, .int .i64 x.k]) ∧ Below w.heap.size w w' := by
  obtain ⟨E, h1, h2⟩ := hS.ln
  exact markAt_any lb mb E S.L p x w h1 h2 hb hx

set_option maxRecDepth 100000 in
set_option maxHeartbeats 1000000 in
theorem stLen_any (sb ma mp lb mb : Nat) (S : CS) (w : World) (hS : StAt sb ma mp lb mb S w) (hb : (vis S.L).length ≤ 1000000) :
    Calls Tryz.prog 78 #[.pointer (some ⟨sb, 0, none⟩)] w fun e w' => e = .returned (.int .i64 (vis S.L).length) ∧ Below w.heap.size w w' := by
  have c1 := hS.line
  have h := lenS sb ma mp lb mb S w hS hb
  go_enter Tryz.func78, Tryz.ntmps78
  go_wp2_with (go_at_call 104; refine h.mono ?_; rintro e w1 ⟨rfl, hB⟩)
  go_ret
  exact ⟨rfl, hB⟩

set_option maxRecDepth 100000 in
set_option maxHeartbeats 1000000 in
theorem stText_any (sb ma mp lb mb : Nat) (S : CS) (w : World) (hS : StAt sb ma mp lb mb S w) (hb : (vis S.L).length ≤ 1000000) :
    Calls Tryz.prog 61 #[.pointer (some ⟨sb, 0, none⟩)] w fun e w' => e = .returned (.string ⟨(txt (vis S.L)).toArray⟩) ∧ Below w.heap.size w w' := by
  have c1 := hS.line
  have h := textS sb ma mp lb mb S w hS hb
  go_enter Tryz.func61, Tryz.ntmps61
  go_wp2_with (go_at_call 85; refine h.mono ?_; rintro e w1 ⟨rfl, hB⟩)
  go_ret
  exact ⟨rfl, hB⟩

set_option maxRecDepth 100000 in
set_option maxHeartbeats 1000000 in
/-- Insert at a place that there is not. -/
theorem stIns_place (sb ma mp lb mb : Nat) (S : CS) (p r : Int) (w : World) (hS : StAt sb ma mp lb mb S w) (hb : (vis S.L).length ≤ 1000000) (hp : p < 0 ∨ (vis S.L).length < p) :
    Calls Tryz.prog 81 #[.pointer (some ⟨sb, 0, none⟩), .int .i64 p, .int .i32 r] w fun e w' => e = .returned (.int .i64 3) ∧ Below w.heap.size w w' := by
  have c1 := hS.line
  have h := lenS sb ma mp lb mb S w hS hb
  by_cases h0 : p < 0
  · go_enter Tryz.func81, Tryz.ntmps81
    go_wp2_with fail
    go_ret
    exact ⟨rfl, Below.refl _ _⟩
  · have h1 : ((vis S.L).length : Int) < p := by omega
    go_enter Tryz.func81, Tryz.ntmps81
    go_wp2_with (go_at_call 104; refine h.mono ?_; rintro e w1 ⟨rfl, hB⟩)
    go_ret
    exact ⟨rfl, hB⟩

set_option maxRecDepth 100000 in
set_option maxHeartbeats 1000000 in
/-- Insert of what is no rune. -/
theorem stIns_rune (sb ma mp lb mb : Nat) (S : CS) (p r : Int) (w : World) (hS : StAt sb ma mp lb mb S w) (hb : (vis S.L).length ≤ 1000000) (hp0 : 0 ≤ p) (hp : p ≤ (vis S.L).length) (hr : Lib.validRune r = false) :
    Calls Tryz.prog 81 #[.pointer (some ⟨sb, 0, none⟩), .int .i64 p, .int .i32 r] w fun e w' => e = .returned (.int .i64 4) ∧ Below w.heap.size w w' := by
  have c1 := hS.line
  have h := lenS sb ma mp lb mb S w hS hb
  have hV := fun w => utf8_ValidRune r w
  rw [hr] at hV
  clear hr
  go_enter Tryz.func81, Tryz.ntmps81
  go_wp2_with (first | (go_at_call 104; refine h.mono ?_; rintro e w1 ⟨rfl, hB⟩) | (go_at_call 105; refine (hV _).mono ?_; rintro e w2 ⟨rfl, rfl⟩))
  go_ret
  exact ⟨rfl, hB⟩

end Go.Proofs.YtachmkhbbbmioaaGreat

namespace Go.Proofs.YtachmkhbbbmioaaGreat
open Go.RowKit Go.Shelf

/-- What holds of every copy's state. -/
structure Good (S : CS) : Prop where
  s1 : 1 ≤ S.s
  sn : S.s ≤ S.n
  n8 : S.n ≤ 8
  g0 : 0 ≤ S.g
  g1 : S.g ≤ 1099511627776
  cl : ∀ i, i < 8 → 0 ≤ S.cl i ∧ S.cl i ≤ 100
  len : (vis S.L).length ≤ 1000000
  mark : ∀ x ∈ S.L, 0 < x.c ∧ x.c ≤ S.g

/-- The element that a copy makes next. -/
def newEl (S : CS) (r : Int) (hr : Lib.validRune r = true) : El := { c := S.g + 1, k := S.s, r := r, d := false, ok := valid_sc hr }

theorem newEl_fresh {S : CS} (hG : Good S) {r : Int} (hr : Lib.validRune r = true) {A R : List El} (h : S.L = A ++ R) : fresh (newEl S r hr) (A ++ R) := by
  refine ⟨fun q => ?_, fun x hx q => ?_⟩
  · have := hG.g0; have h1 : S.g + 1 = 0 := q.1; omega
  · rw [← h] at hx
    have := (hG.mark x hx).2
    have h1 : x.c = S.g + 1 := q.1
    omega

theorem fullS {S : CS} (hG : Good S) (sb ma mp lb mb : Nat) (w : World) (hS : StAt sb ma mp lb mb S w) (b : Bool) (hb : decide (100 ≤ S.cl (S.s - 1) ∨ 1099511627776 ≤ S.g) = b) :
    Calls Tryz.prog 106 #[.pointer (some ⟨sb, 0, none⟩)] w fun r w' => r = .returned (.bool b) ∧ Below w.heap.size w w' := by
  have h := full_any sb ma mp lb mb S w hS hG.s1 (Nat.le_trans hG.sn hG.n8)
  rw [hb] at h
  refine h.mono ?_
  rintro e w' ⟨rfl, n, rfl⟩
  exact ⟨rfl, ⟨rfl, rfl, rfl, Nat.le_refl _, fun _ _ => rfl⟩⟩

theorem Below.trans' {a b c : World} (h : Below a.heap.size a b) (k : Below b.heap.size b c) : Below a.heap.size a c := h.trans (k.mono h.size)

set_option maxRecDepth 100000 in
set_option maxHeartbeats 1000000 in
theorem stIns_full (sb ma mp lb mb : Nat) (S : CS) (hG : Good S) (p r : Int) (w : World) (hS : StAt sb ma mp lb mb S w) (hp0 : 0 ≤ p) (hp : p ≤ (vis S.L).length) (hr : Lib.validRune r = true) (hf : decide (100 ≤ S.cl (S.s - 1) ∨ 1099511627776 ≤ S.g) = true) :
    Calls Tryz.prog 81 #[.pointer (some ⟨sb, 0, none⟩), .int .i64 p, .int .i32 r] w fun e w' => e = .returned (.int .i64 5) ∧ Below w.heap.size w w' := by
  have c1 := hS.line
  have h := lenS sb ma mp lb mb S w hS hG.len
  have hV := fun w => utf8_ValidRune r w
  rw [hr] at hV
  have hFu := fun (w' : World) (hw : Below w.heap.size w w') => fullS hG sb ma mp lb mb w' (hS.below hw) true hf
  clear hr hf
  go_enter Tryz.func81, Tryz.ntmps81
  go_wp2_with (first | (go_at_call 104; refine h.mono ?_; rintro e w1 ⟨rfl, hB⟩) | (go_at_call 105; refine (hV _).mono ?_; rintro e w2 ⟨rfl, rfl⟩) | (go_at_call 106; refine (hFu _ hB).mono ?_; rintro e w3 ⟨rfl, hB3⟩))
  go_ret
  exact ⟨rfl, Below.trans' hB hB3⟩

theorem markI (sb ma mp lb mb : Nat) (S : CS) (q : Int) (h0 : 0 ≤ q) (x : El) (w : World) (hS : StAt sb ma mp lb mb S w) (hb : (vis S.L).length ≤ 1000000) (hx : (vis S.L)[q.toNat]? = some x) :
    Calls Tryz.prog 108 #[.pointer (some ⟨lb, 0, none⟩), .int .i64 q] w fun e w' => e = .returned (.agg #[.int .i64 x.c, .int .i64 x.k]) ∧ Below w.heap.size w w' := by
  have := markS sb ma mp lb mb S q.toNat x w hS hb hx
  rwa [Int.toNat_of_nonneg h0] at this

set_option maxRecDepth 100000 in
set_option maxHeartbeats 2000000 in
theorem stIns_pos (sb ma mp lb mb : Nat) (S : CS) (hG : Good S) (q : Int) (hq : 0 < q) (r : Int) (w : World) (hS : StAt sb ma mp lb mb S w) (hp : q ≤ (vis S.L).length) (hr : Lib.validRune r = true) (hf : decide (100 ≤ S.cl (S.s - 1) ∨ 1099511627776 ≤ S.g) = false)
    (x : El) (hx : (vis S.L)[(q - 1).toNat]? = some x) (Rw : World → Prop) (hW : ∀ w', StAt sb ma mp lb mb S w' → Calls Tryz.prog 109 #[.pointer (some ⟨sb, 0, none⟩), .int .i64 0, .agg #[.int .i64 x.c, .int .i64 x.k], .int .i32 r] w' fun e w2 => e = .returned (.tuple #[]) ∧ Fr (own3 sb ma mb) w' w2 ∧ Rw w2) :
    Calls Tryz.prog 81 #[.pointer (some ⟨sb, 0, none⟩), .int .i64 q, .int .i32 r] w fun e w' => e = .returned (.int .i64 0) ∧ Fr (own3 sb ma mb) w w' ∧ Rw w' := by
  have c1 := hS.line
  have h := lenS sb ma mp lb mb S w hS hG.len
  have hV := fun w => utf8_ValidRune r w
  rw [hr] at hV
  have hFu := fun (w' : World) (hw : Below w.heap.size w w') => fullS hG sb ma mp lb mb w' (hS.below hw) false hf
  have hM := fun (w' : World) (hw : StAt sb ma mp lb mb S w') => markI sb ma mp lb mb S (q - 1) (by omega) x w' hw hG.len hx
  have hpl : q ≤ 1000000 := by have := hG.len; omega
  have HW := hide hW
  clear hf hr hx hW
  go_enter Tryz.func81, Tryz.ntmps81
  go_wp2_with (first | (go_at_call 104; refine h.mono ?_; rintro e w1 ⟨rfl, hB⟩) | (go_at_call 105; refine (hV _).mono ?_; rintro e w2 ⟨rfl, rfl⟩) | (go_at_call 106; refine (hFu _ hB).mono ?_; rintro e w3 ⟨rfl, hB3⟩))
  have hB4 := Below.trans' hB hB3
  have hS3 := hS.below hB4
  have g4 : w3.grownBy ((w3.alloc (.cells #[.int .i64 0, .int .i64 0] 152)).alloc (.cells #[.int .i64 0, .int .i64 0] 152)) none := grown_alloc (grown_alloc (grown_refl _) _) _
  have hS4 := hS3.grown g4
  have hF4 : Fr (own3 sb ma mb) w ((w3.alloc (.cells #[.int .i64 0, .int .i64 0] 152)).alloc (.cells #[.int .i64 0, .int .i64 0] 152)) := ((Fr.refl _ w).below hB4 (Nat.le_refl _)).grown g4 (by simp)
  have c4 := hS4.line
  have k4 : ((w3.alloc (.cells #[.int .i64 0, .int .i64 0] 152)).alloc (.cells #[.int .i64 0, .int .i64 0] 152)).heap[w3.heap.size + 1]? = some (.cells #[.int .i64 0, .int .i64 0] 152) := by
    simp only [heap_alloc_at, World.size_alloc]; simp
  have hs3 : w.heap.size ≤ w3.heap.size := hB4.size
  refine (beginning_any _).mono ?_
  rintro e w4 ⟨rfl, rfl⟩
  go_wp2_with fail
  refine (hM _ hS4).mono ?_
  rintro e w5 ⟨rfl, hB5⟩
  have k5 := (hB5.block _ (lt_of_heap k4)).trans k4
  have hS5 := hS4.below hB5
  have hF5 := hF4.below hB5 (by simp; omega)
  clear h hV hFu hM hB hB3 hB4 hS3 g4 hS4 hF4 c4 k4 hB5
  have d0 : w5.cell? ⟨w3.heap.size + 1, 0, none⟩ = some (.int .i64 0) := cell_blk k5 0
  have d1 : w5.cell? ⟨w3.heap.size + 1, 1, none⟩ = some (.int .i64 0) := cell_blk k5 1
  have f0 : w5.frozen? ⟨w3.heap.size + 1, 0, none⟩ = false := frozen_blk k5 0
  have f1 : w5.frozen? ⟨w3.heap.size + 1, 1, none⟩ = false := frozen_blk k5 1
  go_wp2_with fail
  have hS6 : StAt sb ma mp lb mb S ((w5.setCell ⟨w3.heap.size + 1, 0, none⟩ (.int .i64 x.c)).setCell ⟨w3.heap.size + 1, 1, none⟩ (.int .i64 x.k)) := hS5.kept (fun k hk => by
    have := hS.lts k hk
    rw [Below.heap_setCell _ _ _ _ (by simp; omega), Below.heap_setCell _ _ _ _ (by simp; omega)])
  have hF6 := (hF5.setCell (p := ⟨w3.heap.size + 1, 0, none⟩) (.inr (by simp; omega)) (.int .i64 x.c)).setCell (p := ⟨w3.heap.size + 1, 1, none⟩) (.inr (by simp; omega)) (.int .i64 x.k)
  refine (HW.out _ hS6).mono ?_
  rintro e w7 ⟨rfl, hF7, hR7⟩
  go_wp2_with fail
  go_ret
  exact ⟨rfl, hF6.trans hF7, hR7⟩

/-- A line cut behind the element that is p-th of those there: behind the p-th, at the head where p is 0. -/
def CutIs (L : List El) (p : Nat) (A R : List El) : Prop :=
  L = A ++ R ∧ (vis A).length = p ∧ (p = 0 → A = []) ∧ (∀ p', p = p' + 1 → ∃ x, (vis L)[p']? = some x ∧ lc A = x.c ∧ lk A = x.k)

set_option maxRecDepth 100000 in
set_option maxHeartbeats 2000000 in
theorem stIns_ok (sb ma mp lb mb : Nat) (S : CS) (hG : Good S) (p : Nat) (r : Int) (w : World) (hS : StAt sb ma mp lb mb S w) (hp : p ≤ (vis S.L).length) (hr : Lib.validRune r = true) (hf : decide (100 ≤ S.cl (S.s - 1) ∨ 1099511627776 ≤ S.g) = false) :
    Calls Tryz.prog 81 #[.pointer (some ⟨sb, 0, none⟩), .int .i64 p, .int .i32 r] w fun e w' => e = .returned (.int .i64 0) ∧
      ∃ A R, CutIs S.L p A R ∧ StAt sb ma mp lb mb { S with cl := bump S.cl (S.s - 1), g := S.g + 1, L := A ++ behind (newEl S r hr) R, ops := opIns S (lc A) (lk A) r :: S.ops } w' ∧ Fr (own3 sb ma mb) w w' := by
  have c1 := hS.line
  have h := lenS sb ma mp lb mb S w hS hG.len
  have hV := fun w => utf8_ValidRune r w
  rw [hr] at hV
  have hFu := fun (w' : World) (hw : Below w.heap.size w w') => fullS hG sb ma mp lb mb w' (hS.below hw) false hf
  have hnf : S.cl (S.s - 1) < 100 ∧ S.g < 1099511627776 := by
    have := of_decide_eq_false hf
    omega
  have hc := hG.cl (S.s - 1) (by have := hG.n8; have := hG.sn; have := hG.s1; omega)
  have h8 := Nat.le_trans hG.sn hG.n8
  have hg0 := hG.g0
  have hs1 := hG.s1
  obtain ⟨A, R, hL, hA, hA0, hA1⟩ := split_vis S.L p hp
  have hW := fun (w' : World) (hw : StAt sb ma mp lb mb S w') => write_ins sb ma mp lb mb S A R (newEl S r hr) w' hw hs1 h8 hc.1 (by omega) hg0 (by omega) hL rfl rfl (newEl_fresh hG hr hL) rfl
  have HH : Hid (CutIs S.L p A R) := ⟨hL, hA, hA0, hA1⟩
  have hpl : (p : Int) ≤ 1000000 := by have := hG.len; omega
  have HF := hide hf
  clear hf hL hA
  cases p with
  | zero =>
    obtain rfl := hA0 rfl
    simp only [newEl, lc, lk] at hW
    clear hA0 hA1
    go_enter Tryz.func81, Tryz.ntmps81
    go_wp2_with (first | (go_at_call 104; refine h.mono ?_; rintro e w1 ⟨rfl, hB⟩) | (go_at_call 105; refine (hV _).mono ?_; rintro e w2 ⟨rfl, rfl⟩) | (go_at_call 106; refine (hFu _ hB).mono ?_; rintro e w3 ⟨rfl, hB3⟩) | (go_at_call 107; refine (beginning_any _).mono ?_; rintro e w4 ⟨rfl, rfl⟩))
    have hB4 := Below.trans' hB hB3
    have g4 : w3.grownBy ((w3.alloc (.cells #[.int .i64 0, .int .i64 0] 152)).alloc (.cells #[.int .i64 0, .int .i64 0] 152)) none := grown_alloc (grown_alloc (grown_refl _) _) _
    refine (hW _ ((hS.below hB4).grown g4)).mono ?_
    rintro e w5 ⟨rfl, hS5, hF5⟩
    go_wp2_with fail
    go_ret
    exact ⟨rfl, [], R, HH.out, hS5, (((Fr.refl _ w).below hB4 (Nat.le_refl _)).grown g4 (by simp)).trans hF5⟩
  | succ p =>
    obtain ⟨x, hx, e1, e2⟩ := hA1 p rfl
    have hpos := stIns_pos sb ma mp lb mb S hG ((p : Int) + 1) (by omega) r w hS (by omega) hr HF.out x (by simpa using hx)
      (fun w' => StAt sb ma mp lb mb { S with cl := bump S.cl (S.s - 1), g := S.g + 1, L := A ++ behind (newEl S r hr) R, ops := opIns S (lc A) (lk A) r :: S.ops } w')
      (fun w' hw => by
        have := hW w' hw
        rw [e1, e2] at this
        refine this.mono ?_
        rintro e w2 ⟨rfl, h2, h3⟩
        exact ⟨rfl, h3, by rw [e1, e2]; exact h2⟩)
    have ep : (((p + 1 : Nat) : Nat) : Int) = (p : Int) + 1 := by omega
    rw [ep]
    refine hpos.mono ?_
    rintro e w' ⟨rfl, h1, h2⟩
    exact ⟨rfl, A, R, HH.out, h2, h1⟩

end Go.Proofs.YtachmkhbbbmioaaGreat

namespace Go.Proofs.YtachmkhbbbmioaaGreat
open Go.RowKit Go.Shelf

theorem split_mid : ∀ (L : List El) (p : Nat) (x : El), (vis L)[p]? = some x → ∃ A R, L = A ++ x :: R ∧ (vis A).length = p ∧ x.d = false
  | [], p, x, h => by simp [vis] at h
  | y :: L, p, x, h => by
    cases hy : y.d with
    | false =>
      rw [vis_cons_there hy] at h
      cases p with
      | zero =>
        simp only [List.getElem?_cons_zero, Option.some.injEq] at h
        subst h
        exact ⟨[], L, rfl, rfl, hy⟩
      | succ p =>
        obtain ⟨A, R, h1, h2, h3⟩ := split_mid L p x (by simpa using h)
        exact ⟨y :: A, R, by rw [h1]; rfl, by rw [vis_cons_there hy]; simp [h2], h3⟩
    | true =>
      rw [vis_cons_gone hy] at h
      obtain ⟨A, R, h1, h2, h3⟩ := split_mid L p x h
      exact ⟨y :: A, R, by rw [h1]; rfl, by rw [vis_cons_gone hy]; exact h2, h3⟩

set_option maxRecDepth 100000 in
set_option maxHeartbeats 1000000 in
theorem stDel_place (sb ma mp lb mb : Nat) (S : CS) (p : Int) (w : World) (hS : StAt sb ma mp lb mb S w) (hb : (vis S.L).length ≤ 1000000) (hp : p < 0 ∨ (vis S.L).length ≤ p) :
    Calls Tryz.prog 110 #[.pointer (some ⟨sb, 0, none⟩), .int .i64 p] w fun e w' => e = .returned (.int .i64 3) ∧ Below w.heap.size w w' := by
  have c1 := hS.line
  have h := lenS sb ma mp lb mb S w hS hb
  by_cases h0 : p < 0
  · go_enter Tryz.func110, Tryz.ntmps110
    go_wp2_with fail
    go_ret
    exact ⟨rfl, Below.refl _ _⟩
  · have h1 : ((vis S.L).length : Int) ≤ p := by omega
    go_enter Tryz.func110, Tryz.ntmps110
    go_wp2_with (go_at_call 104; refine h.mono ?_; rintro e w1 ⟨rfl, hB⟩)
    go_ret
    exact ⟨rfl, hB⟩

set_option maxRecDepth 100000 in
set_option maxHeartbeats 1000000 in
theorem stDel_full (sb ma mp lb mb : Nat) (S : CS) (hG : Good S) (p : Int) (w : World) (hS : StAt sb ma mp lb mb S w) (hp0 : 0 ≤ p) (hp : p < (vis S.L).length) (hf : decide (100 ≤ S.cl (S.s - 1) ∨ 1099511627776 ≤ S.g) = true) :
    Calls Tryz.prog 110 #[.pointer (some ⟨sb, 0, none⟩), .int .i64 p] w fun e w' => e = .returned (.int .i64 5) ∧ Below w.heap.size w w' := by
  have c1 := hS.line
  have h := lenS sb ma mp lb mb S w hS hG.len
  have hFu := fun (w' : World) (hw : Below w.heap.size w w') => fullS hG sb ma mp lb mb w' (hS.below hw) true hf
  clear hf
  go_enter Tryz.func110, Tryz.ntmps110
  go_wp2_with (first | (go_at_call 104; refine h.mono ?_; rintro e w1 ⟨rfl, hB⟩) | (go_at_call 106; refine (hFu _ hB).mono ?_; rintro e w3 ⟨rfl, hB3⟩))
  go_ret
  exact ⟨rfl, Below.trans' hB hB3⟩

set_option maxRecDepth 100000 in
set_option maxHeartbeats 2000000 in
theorem stDel_ok (sb ma mp lb mb : Nat) (S : CS) (hG : Good S) (p : Int) (w : World) (hS : StAt sb ma mp lb mb S w) (hp0 : 0 ≤ p) (hp : p < (vis S.L).length) (hf : decide (100 ≤ S.cl (S.s - 1) ∨ 1099511627776 ≤ S.g) = false) :
    Calls Tryz.prog 110 #[.pointer (some ⟨sb, 0, none⟩), .int .i64 p] w fun e w' => e = .returned (.int .i64 0) ∧
      ∃ A x R, S.L = A ++ x :: R ∧ (vis A).length = p.toNat ∧ x.d = false ∧ StAt sb ma mp lb mb { S with cl := bump S.cl (S.s - 1), g := S.g + 1, L := A ++ gone x :: R, ops := opDel S x.c x.k :: S.ops } w' ∧ Fr (own3 sb ma mb) w w' := by
  have c1 := hS.line
  have h := lenS sb ma mp lb mb S w hS hG.len
  have hFu := fun (w' : World) (hw : Below w.heap.size w w') => fullS hG sb ma mp lb mb w' (hS.below hw) false hf
  have hnf : S.cl (S.s - 1) < 100 ∧ S.g < 1099511627776 := by
    have := of_decide_eq_false hf
    omega
  have hc := hG.cl (S.s - 1) (by have := hG.n8; have := hG.sn; have := hG.s1; omega)
  have h8 := Nat.le_trans hG.sn hG.n8
  have hg0 := hG.g0
  have hs1 := hG.s1
  have hx : (vis S.L)[p.toNat]? = some ((vis S.L)[p.toNat]'(by omega)) := List.getElem?_eq_getElem _
  generalize (vis S.L)[p.toNat]'(by omega) = x at hx
  obtain ⟨A, R, hL, hA, hxd⟩ := split_mid S.L p.toNat x hx
  have hM := fun (w' : World) (hw : StAt sb ma mp lb mb S w') => markI sb ma mp lb mb S p hp0 x w' hw hG.len hx
  have hW := hide (fun (w' : World) (hw : StAt sb ma mp lb mb S w') => write_del sb ma mp lb mb S A R x w' hw hs1 h8 hc.1 (by omega) hg0 (by omega) hL)
  have HH : Hid (S.L = A ++ x :: R ∧ (vis A).length = p.toNat ∧ x.d = false) := ⟨hL, hA, hxd⟩
  clear hf hL hA hxd hx
  go_enter Tryz.func110, Tryz.ntmps110
  go_wp2_with (first | (go_at_call 104; refine h.mono ?_; rintro e w1 ⟨rfl, hB⟩))
  refine (hFu _ hB).mono ?_
  rintro e w3 ⟨rfl, hB3⟩
  have hB4 := Below.trans' hB hB3
  have hS3 := hS.below hB4
  have c3 := hS3.line
  go_wp2_with fail
  refine (hM _ hS3).mono ?_
  rintro e w5 ⟨rfl, hB5⟩
  have hB6 := Below.trans' hB4 hB5
  have hS5 := hS.below hB6
  go_wp2_with fail
  refine (hW.out _ hS5).mono ?_
  rintro e w7 ⟨rfl, hS7, hF7⟩
  go_wp2_with fail
  go_ret
  exact ⟨rfl, A, x, R, HH.out.1, HH.out.2.1, HH.out.2.2, hS7, ((Fr.refl _ w).below hB6 (Nat.le_refl _)).trans hF7⟩

end Go.Proofs.YtachmkhbbbmioaaGreat

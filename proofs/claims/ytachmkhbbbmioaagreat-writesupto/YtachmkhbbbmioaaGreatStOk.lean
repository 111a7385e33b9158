import Derived.Test.YtachmkhbbbmioaaGreatStIns
namespace Go.Proofs.YtachmkhbbbmioaaGreat
open Go.RowKit Go.Shelf

/-- What holds of every copy's state. -/
structure Good (S : CS) : Prop where
  s1 : 1 ≤ S.s
  sn : S.s ≤ S.n
  n8 : S.n ≤ 8
  g0 : 0 ≤ S.g
  g1 : S.g ≤ 1099511627776
  cl : ∀ i, i < 8 → 0 ≤ S.cl i ∧ S.cl i ≤ 100
  len : (vis S.L).length ≤ 1000000
  mark : ∀ x ∈ S.L, 0 < x.c ∧ x.c ≤ S.g

/-- The element that a copy makes next. -/
def newEl (S : CS) (r : Int) (hr : Lib.validRune r = true) : El := { c := S.g + 1, k := S.s, r := r, d := false, ok := valid_sc hr }

theorem newEl_fresh {S : CS} (hG : Good S) {r : Int} (hr : Lib.validRune r = true) {A R : List El} (h : S.L = A ++ R) : fresh (newEl S r hr) (A ++ R) := by
  refine ⟨fun q => ?_, fun x hx q => ?_⟩
  · have := hG.g0; have h1 : S.g + 1 = 0 := q.1; omega
  · rw [← h] at hx
    have := (hG.mark x hx).2
    have h1 : x.c = S.g + 1 := q.1
    omega

theorem fullS {S : CS} (hG : Good S) (sb ma mp lb mb : Nat) (w : World) (hS : StAt sb ma mp lb mb S w) (b : Bool) (hb : decide (100 ≤ S.cl (S.s - 1) ∨ 1099511627776 ≤ S.g) = b) :
    Calls Tryz.prog 106 #[.pointer (some ⟨sb, 0, none⟩)] w fun r w' => r = .returned (.bool b) ∧ Below w.heap.size w w' := by
  have h := full_any sb ma mp lb mb S w hS hG.s1 (Nat.le_trans hG.sn hG.n8)
  rw [hb] at h
  refine h.mono ?_
  rintro e w' ⟨rfl, n, rfl⟩
  exact ⟨rfl, ⟨rfl, rfl, rfl, Nat.le_refl _, fun _ _ => rfl⟩⟩

theorem Below.trans' {a b c : World} (h : Below a.heap.size a b) (k : Below b.heap.size b c) : Below a.heap.size a c := h.trans (k.mono h.size)

set_option maxRecDepth 100000 in
set_option maxHeartbeats 1000000 in
theorem stIns_full (sb ma mp lb mb : Nat) (S : CS) (hG : Good S) (p r : Int) (w : World) (hS : StAt sb ma mp lb mb S w) (hp0 : 0 ≤ p) (hp : p ≤ (vis S.L).length) (hr : Lib.validRune r = true) (hf : decide (100 ≤ S.cl (S.s - 1) ∨ 1099511627776 ≤ S.g) = true) :
    Calls Tryz.prog 81 #[.pointer (some ⟨sb, 0, none⟩), .int .i64 p, .int .i32 r] w fun e w' => e = .returned (.int .i64 5) ∧ Below w.heap.size w w' := by
  have c1 := hS.line
  have h := lenS sb ma mp lb mb S w hS hG.len
  have hV := fun w => utf8_ValidRune r w
  rw [hr] at hV
  have hFu := fun (w' : World) (hw : Below w.heap.size w w') => fullS hG sb ma mp lb mb w' (hS.below hw) true hf
  clear hr hf
  go_enter Tryz.func81, Tryz.ntmps81
  go_wp2_with (first | (go_at_call 104; refine h.mono ?_; rintro e w1 ⟨rfl, hB⟩) | (go_at_call 105; refine (hV _).mono ?_; rintro e w2 ⟨rfl, rfl⟩) | (go_at_call 106; refine (hFu _ hB).mono ?_; rintro e w3 ⟨rfl, hB3⟩))
  go_ret
  exact ⟨rfl, Below.trans' hB hB3⟩

theorem markI (sb ma mp lb mb : Nat) (S : CS) (q : Int) (h0 : 0 ≤ q) (x : El) (w : World) (hS : StAt sb ma mp lb mb S w) (hb : (vis S.L).length ≤ 1000000) (hx : (vis S.L)[q.toNat]? = some x) :
    Calls Tryz.prog 108 #[.pointer (some ⟨lb, 0, none⟩), .int .i64 q] w fun e w' => e = .returned (.agg #[.int .i64 x.c, .int .i64 x.k]) ∧ Below w.heap.size w w' := by
  have := markS sb ma mp lb mb S q.toNat x w hS hb hx
  rwa [Int.toNat_of_nonneg h0] at this

set_option maxRecDepth 100000 in
set_option maxHeartbeats 2000000 in
theorem stIns_pos (sb ma mp lb mb : Nat) (S : CS) (hG : Good S) (q : Int) (hq : 0 < q) (r : Int) (w : World) (hS : StAt sb ma mp lb mb S w) (hp : q ≤ (vis S.L).length) (hr : Lib.validRune r = true) (hf : decide (100 ≤ S.cl (S.s - 1) ∨ 1099511627776 ≤ S.g) = false)
    (x : El) (hx : (vis S.L)[(q - 1).toNat]? = some x) (Rw : World → Prop) (hW : ∀ w', StAt sb ma mp lb mb S w' → Calls Tryz.prog 109 #[.pointer (some ⟨sb, 0, none⟩), .int .i64 0, .agg #[.int .i64 x.c, .int .i64 x.k], .int .i32 r] w' fun e w2 => e = .returned (.tuple #[]) ∧ Fr (own3 sb ma mb) w' w2 ∧ Rw w2) :
    Calls Tryz.prog 81 #[.pointer (some ⟨sb, 0, none⟩), .int .i64 q, .int .i32 r] w fun e w' => e = .returned (.int .i64 0) ∧ Fr (own3 sb ma mb) w w' ∧ Rw w' := by
  have c1 := hS.line
  have h := lenS sb ma mp lb mb S w hS hG.len
  have hV := fun w => utf8_ValidRune r w
  rw [hr] at hV
  have hFu := fun (w' : World) (hw : Below w.heap.size w w') => fullS hG sb ma mp lb mb w' (hS.below hw) false hf
  have hM := fun (w' : World) (hw : StAt sb ma mp lb mb S w') => markI sb ma mp lb mb S (q - 1) (by omega) x w' hw hG.len hx
  have hpl : q ≤ 1000000 := by have := hG.len; omega
  have HW := hide hW
  clear hf hr hx hW
  go_enter Tryz.func81, Tryz.ntmps81
  go_wp2_with (first | (go_at_call 104; refine h.mono ?_; rintro e w1 ⟨rfl, hB⟩) | (go_at_call 105; refine (hV _).mono ?_; rintro e w2 ⟨rfl, rfl⟩) | (go_at_call 106; refine (hFu _ hB).mono ?_; rintro e w3 ⟨rfl, hB3⟩))
  have hB4 := Below.trans' hB hB3
  have hS3 := hS.below hB4
  have g4 : w3.grownBy ((w3.alloc (.cells #[.int .i64 0, .int .i64 0] 152)).alloc (.cells #[.int .i64 0, .int .i64 0] 152)) none := grown_alloc (grown_alloc (grown_refl _) _) _
  have hS4 := hS3.grown g4
  have hF4 : Fr (own3 sb ma mb) w ((w3.alloc (.cells #[.int .i64 0, .int .i64 0] 152)).alloc (.cells #[.int .i64 0, .int .i64 0] 152)) := ((Fr.refl _ w).below hB4 (Nat.le_refl _)).grown g4 (by simp)
  have c4 := hS4.line
  have k4 : ((w3.alloc (.cells #[.int .i64 0, .int .i64 0] 152)).alloc (.cells #[.int .i64 0, .int .i64 0] 152)).heap[w3.heap.size + 1]? = some (.cells #[.int .i64 0, .int .i64 0] 152) := by
    simp only [heap_alloc_at, World.size_alloc]; simp
  have hs3 : w.heap.size ≤ w3.heap.size := hB4.size
  refine (beginning_any _).mono ?_
  rintro e w4 ⟨rfl, rfl⟩
  go_wp2_with fail
  refine (hM _ hS4).mono ?_
  rintro e w5 ⟨rfl, hB5⟩
  have k5 := (hB5.block _ (lt_of_heap k4)).trans k4
  have hS5 := hS4.below hB5
  have hF5 := hF4.below hB5 (by simp; omega)
  clear h hV hFu hM hB hB3 hB4 hS3 g4 hS4 hF4 c4 k4 hB5
  have d0 : w5.cell? ⟨w3.heap.size + 1, 0, none⟩ = some (.int .i64 0) := cell_blk k5 0
  have d1 : w5.cell? ⟨w3.heap.size + 1, 1, none⟩ = some (.int .i64 0) := cell_blk k5 1
  have f0 : w5.frozen? ⟨w3.heap.size + 1, 0, none⟩ = false := frozen_blk k5 0
  have f1 : w5.frozen? ⟨w3.heap.size + 1, 1, none⟩ = false := frozen_blk k5 1
  go_wp2_with fail
  have hS6 : StAt sb ma mp lb mb S ((w5.setCell ⟨w3.heap.size + 1, 0, none⟩ (.int .i64 x.c)).setCell ⟨w3.heap.size + 1, 1, none⟩ (.int .i64 x.k)) := hS5.kept (fun k hk => by
    have := hS.lts k hk
    rw [Below.heap_setCell _ _ _ _ (by simp; omega), Below.heap_setCell _ _ _ _ (by simp; omega)])
  have hF6 := (hF5.setCell (p := ⟨w3.heap.size + 1, 0, none⟩) (.inr (by simp; omega)) (.int .i64 x.c)).setCell (p := ⟨w3.heap.size + 1, 1, none⟩) (.inr (by simp; omega)) (.int .i64 x.k)
  refine (HW.out _ hS6).mono ?_
  rintro e w7 ⟨rfl, hF7, hR7⟩
  go_wp2_with fail
  go_ret
  exact ⟨rfl, hF6.trans hF7, hR7⟩

/-- A line cut behind the element that is p-th of those there: behind the p-th, at the head where p is 0. -/
def CutIs (L : List El) (p : Nat) (A R : List El) : Prop :=
  L = A ++ R ∧ (vis A).length = p ∧ (p = 0 → A = []) ∧ (∀ p', p = p' + 1 → ∃ x, (vis L)[p']? = some x ∧ lc A = x.c ∧ lk A = x.k)

set_option maxRecDepth 100000 in
set_option maxHeartbeats 2000000 in
theorem stIns_ok (sb ma mp lb mb : Nat) (S : CS) (hG : Good S) (p : Nat) (r : Int) (w : World) (hS : StAt sb ma mp lb mb S w) (hp : p ≤ (vis S.L).length) (hr : Lib.validRune r = true) (hf : decide (100 ≤ S.cl (S.s - 1) ∨ 1099511627776 ≤ S.g) = false) :
    Calls Tryz.prog 81 #[.pointer (some ⟨sb, 0, none⟩), .int .i64 p, .int .i32 r] w fun e w' => e = .returned (.int .i64 0) ∧
      ∃ A R, CutIs S.L p A R ∧ StAt sb ma mp lb mb { S with cl := bump S.cl (S.s - 1), g := S.g + 1, L := A ++ behind (newEl S r hr) R, ops := opIns S (lc A) (lk A) r :: S.ops } w' ∧ Fr (own3 sb ma mb) w w' := by
  have c1 := hS.line
  have h := lenS sb ma mp lb mb S w hS hG.len
  have hV := fun w => utf8_ValidRune r w
  rw [hr] at hV
  have hFu := fun (w' : World) (hw : Below w.heap.size w w') => fullS hG sb ma mp lb mb w' (hS.below hw) false hf
  have hnf : S.cl (S.s - 1) < 100 ∧ S.g < 1099511627776 := by
    have := of_decide_eq_false hf
    omega
  have hc := hG.cl (S.s - 1) (by have := hG.n8; have := hG.sn; have := hG.s1; omega)
  have h8 := Nat.le_trans hG.sn hG.n8
  have hg0 := hG.g0
  have hs1 := hG.s1
  obtain ⟨A, R, hL, hA, hA0, hA1⟩ := split_vis S.L p hp
  have hW := fun (w' : World) (hw : StAt sb ma mp lb mb S w') => write_ins sb ma mp lb mb S A R (newEl S r hr) w' hw hs1 h8 hc.1 (by omega) hg0 (by omega) hL rfl rfl (newEl_fresh hG hr hL) rfl
  have HH : Hid (CutIs S.L p A R) := ⟨hL, hA, hA0, hA1⟩
  have hpl : (p : Int) ≤ 1000000 := by have := hG.len; omega
  have HF := hide hf
  clear hf hL hA
  cases p with
  | zero =>
    obtain rfl := hA0 rfl
    simp only [newEl, lc, lk] at hW
    clear hA0 hA1
    go_enter Tryz.func81, Tryz.ntmps81
    go_wp2_with (first | (go_at_call 104; refine h.mono ?_; rintro e w1 ⟨rfl, hB⟩) | (go_at_call 105; refine (hV _).mono ?_; rintro e w2 ⟨rfl, rfl⟩) | (go_at_call 106; refine (hFu _ hB).mono ?_; rintro e w3 ⟨rfl, hB3⟩) | (go_at_call 107; refine (beginning_any _).mono ?_; rintro e w4 ⟨rfl, rfl⟩))
    have hB4 := Below.trans' hB hB3
    have g4 : w3.grownBy ((w3.alloc (.cells #[.int .i64 0, .int .i64 0] 152)).alloc (.cells #[.int .i64 0, .int .i64 0] 152)) none := grown_alloc (grown_alloc (grown_refl _) _) _
    refine (hW _ ((hS.below hB4).grown g4)).mono ?_
    rintro e w5 ⟨rfl, hS5, hF5⟩
    go_wp2_with fail
    go_ret
    exact ⟨rfl, [], R, HH.out, hS5, (((Fr.refl _ w).below hB4 (Nat.le_refl _)).grown g4 (by simp)).trans hF5⟩
  | succ p =>
    obtain ⟨x, hx, e1, e2⟩ := hA1 p rfl
    have hpos := stIns_pos sb ma mp lb mb S hG ((p : Int) + 1) (by omega) r w hS (by omega) hr HF.out x (by simpa using hx)
      (fun w' => StAt sb ma mp lb mb { S with cl := bump S.cl (S.s - 1), g := S.g + 1, L := A ++ behind (newEl S r hr) R, ops := opIns S (lc A) (lk A) r :: S.ops } w')
      (fun w' hw => by
        have := hW w' hw
        rw [e1, e2] at this
        refine this.mono ?_
        rintro e w2 ⟨rfl, h2, h3⟩
        exact ⟨rfl, h3, by rw [e1, e2]; exact h2⟩)
    have ep : (((p + 1 : Nat) : Nat) : Int) = (p : Int) + 1 := by omega
    rw [ep]
    refine hpos.mono ?_
    rintro e w' ⟨rfl, h1, h2⟩
    exact ⟨rfl, A, R, HH.out, h2, h1⟩

end Go.Proofs.YtachmkhbbbmioaaGreat

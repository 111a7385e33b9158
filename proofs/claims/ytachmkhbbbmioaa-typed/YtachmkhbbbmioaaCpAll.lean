import Derived.Test.YtachmkhbbbmioaaTyP
namespace Go.Proofs.Ytachmkhbbbmioaa
open Go.RowKit Go.Shelf

theorem Fr.blk4 {cb sb ma mb : Nat} {w w' : World} (h : Fr (own4 cb sb ma mb) w w') {k : Nat} {o : Obj} (hk : w.heap[k]? = some o) (hn : k ≠ cb ∧ k ≠ sb ∧ k ≠ ma ∧ k ≠ mb) : w'.heap[k]? = some o := h.blk hk (by simp [hn])

/-- The copy at its blocks. -/
structure Cp (cb sb ma mp lb mb : Nat) (rs : List Int) (m n : Nat) (w : World) : Prop where
  at_ : ∃ S, CpAt cb sb ma mp lb mb S w ∧ Rel S rs m n

theorem cpText (cb sb ma mp lb mb : Nat) (S : CS) (rs : List Int) (m n : Nat) (w : World) (h : CpAt cb sb ma mp lb mb S w) (hR : Rel S rs m n) :
    Calls Try.prog 9 #[.pointer (some ⟨cb, 0, none⟩)] w fun e w' => e = .returned (.string (runesBytes rs)) ∧ CpAt cb sb ma mp lb mb S w' ∧ Fr (own4 cb sb ma mb) w w' := by
  have ht : runesBytes rs = ⟨(txt (vis S.L)).toArray⟩ := by rw [← hR.ers, runes_txt]
  rw [ht]
  refine (face_text cb sb ma mp lb mb S w h (.string ⟨(txt (vis S.L)).toArray⟩) (fun w2 => StAt sb ma mp lb mb S w2) (fun w1 _ hS => ?_)).mono ?_
  · refine (stText_any sb ma mp lb mb S w1 hS hR.good.len).mono ?_
    rintro e w2 ⟨rfl, hB⟩
    exact ⟨rfl, hS.below hB, Fr.ofBelow hB⟩
  · rintro e w' ⟨rfl, w2, hS2, hk, rfl, hF⟩
    exact ⟨rfl, CpAt.unlock hS2 hk, hF⟩

theorem cpLen (cb sb ma mp lb mb : Nat) (S : CS) (rs : List Int) (m n : Nat) (w : World) (h : CpAt cb sb ma mp lb mb S w) (hR : Rel S rs m n) :
    Calls Try.prog 10 #[.pointer (some ⟨cb, 0, none⟩)] w fun e w' => e = .returned (.int .i64 rs.length) ∧ CpAt cb sb ma mp lb mb S w' ∧ Fr (own4 cb sb ma mb) w w' := by
  rw [← map_len hR.ers]
  refine (face_len cb sb ma mp lb mb S w h (.int .i64 (vis S.L).length) (fun w2 => StAt sb ma mp lb mb S w2) (fun w1 _ hS => ?_)).mono ?_
  · refine (stLen_any sb ma mp lb mb S w1 hS hR.good.len).mono ?_
    rintro e w2 ⟨rfl, hB⟩
    exact ⟨rfl, hS.below hB, Fr.ofBelow hB⟩
  · rintro e w' ⟨rfl, w2, hS2, hk, rfl, hF⟩
    exact ⟨rfl, CpAt.unlock hS2 hk, hF⟩

theorem cpClock (cb sb ma mp lb mb : Nat) (S : CS) (hG : Good S) (w : World) (h : CpAt cb sb ma mp lb mb S w) :
    Calls Try.prog 11 #[.pointer (some ⟨cb, 0, none⟩)] w fun e w' => e = .returned (.slice (some ⟨w.heap.size, 0, none⟩) S.n S.n) ∧ w'.heap[w.heap.size]? = some (.cells (clCells S).toArray 3) ∧ CpAt cb sb ma mp lb mb S w' ∧ Fr (own4 cb sb ma mb) w w' := by
  refine (face_clock cb sb ma mp lb mb S w h (.slice (some ⟨w.heap.size, 0, none⟩) S.n S.n) (fun w2 => StAt sb ma mp lb mb S w2 ∧ w2.heap[w.heap.size]? = some (.cells (clCells S).toArray 3)) (fun w1 hs hS => ?_)).mono ?_
  · refine (stClock_any sb ma mp lb mb S hG w1 hS).mono ?_
    rintro e w2 ⟨rfl, hc, hB⟩
    rw [← hs]
    exact ⟨rfl, ⟨hS.below hB, hc⟩, Fr.ofBelow hB⟩
  · rintro e w' ⟨rfl, w2, ⟨hS2, hc⟩, hk, rfl, hF⟩
    have hlt := lt_of_heap h.cp
    exact ⟨rfl, by rw [Below.heap_setCell _ _ _ _ (by simp; omega)]; exact hc, CpAt.unlock hS2 hk, hF⟩

theorem cpIns (cb sb ma mp lb mb : Nat) (S : CS) (rs : List Int) (m n : Nat) (p r : Int) (w : World) (h : CpAt cb sb ma mp lb mb S w) (hR : Rel S rs m n) :
    Calls Try.prog 8 #[.pointer (some ⟨cb, 0, none⟩), .int .i64 p, .int .i32 r] w fun e w' => e = .returned (.int .i64 (wantI rs m p r)) ∧
      (∃ S', CpAt cb sb ma mp lb mb S' w' ∧ (if wantI rs m p r = 0 then Rel S' (insT rs p r) (m + 1) n else Rel S' rs m n)) ∧ Fr (own4 cb sb ma mb) w w' := by
  have hl := map_len hR.ers
  have hf := full_iff hR
  have err : ∀ (c : Int), c ≠ 0 → (∀ w1, StAt sb ma mp lb mb S w1 → Calls Try.prog 16 #[.pointer (some ⟨sb, 0, none⟩), .int .i64 p, .int .i32 r] w1 fun e w2 => e = .returned (.int .i64 c) ∧ Below w1.heap.size w1 w2) →
      Calls Try.prog 8 #[.pointer (some ⟨cb, 0, none⟩), .int .i64 p, .int .i32 r] w fun e w' => e = .returned (.int .i64 c) ∧ (∃ S', CpAt cb sb ma mp lb mb S' w' ∧ (if c = 0 then Rel S' (insT rs p r) (m + 1) n else Rel S' rs m n)) ∧ Fr (own4 cb sb ma mb) w w' := by
    intro c hc hin
    refine (face_ins cb sb ma mp lb mb S p r w h (.int .i64 c) (fun w2 => StAt sb ma mp lb mb S w2) (fun w1 _ hS => ?_)).mono ?_
    · refine (hin w1 hS).mono ?_
      rintro e w2 ⟨rfl, hB⟩
      exact ⟨rfl, hS.below hB, Fr.ofBelow hB⟩
    · rintro e w' ⟨rfl, w2, hS2, hk, rfl, hF⟩
      exact ⟨rfl, ⟨S, CpAt.unlock hS2 hk, by rw [if_neg hc]; exact hR⟩, hF⟩
  by_cases c1 : p < 0 ∨ (rs.length : Int) < p
  · have e : wantI rs m p r = 3 := by unfold wantI; rw [if_pos c1]
    rw [e]
    exact err 3 (by omega) (fun w1 hS => stIns_place sb ma mp lb mb S p r w1 hS hR.good.len (by omega))
  by_cases c2 : Lib.validRune r = false
  · have e : wantI rs m p r = 4 := by unfold wantI; rw [if_neg c1, if_pos c2]
    rw [e]
    exact err 4 (by omega) (fun w1 hS => stIns_rune sb ma mp lb mb S p r w1 hS hR.good.len (by omega) (by omega) c2)
  have c2' : Lib.validRune r = true := by simpa using c2
  by_cases c3 : m = 100
  · have e : wantI rs m p r = 5 := by unfold wantI; rw [if_neg c1, if_neg c2, if_pos c3]
    rw [e]
    exact err 5 (by omega) (fun w1 hS => stIns_full sb ma mp lb mb S hR.good p r w1 hS (by omega) (by omega) c2' (by rw [hf]; simp [c3]))
  · have e : wantI rs m p r = 0 := by unfold wantI; rw [if_neg c1, if_neg c2, if_neg c3]
    rw [e]
    have hm := hR.m100
    obtain ⟨q, rfl⟩ := Int.eq_ofNat_of_zero_le (show 0 ≤ p by omega)
    refine (face_ins cb sb ma mp lb mb S q r w h (.int .i64 0) (fun w2 => ∃ S', StAt sb ma mp lb mb S' w2 ∧ Rel S' (insT rs q r) (m + 1) n) (fun w1 _ hS => ?_)).mono ?_
    · refine (stIns_ok sb ma mp lb mb S hR.good q r w1 hS (by omega) c2' (by rw [hf]; simp [c3])).mono ?_
      rintro e w2 ⟨rfl, A, R, ⟨hL, hA, -, -⟩, hS2, hF2⟩
      exact ⟨rfl, ⟨_, hS2, rel_ins hR (by omega) c2' hL hA⟩, hF2⟩
    · rintro e w' ⟨rfl, w2, ⟨S', hS2, hR2⟩, hk, rfl, hF⟩
      exact ⟨rfl, ⟨S', CpAt.unlock hS2 hk, by rw [if_pos rfl]; exact hR2⟩, hF⟩

theorem cpDel (cb sb ma mp lb mb : Nat) (S : CS) (rs : List Int) (m n : Nat) (p : Int) (w : World) (h : CpAt cb sb ma mp lb mb S w) (hR : Rel S rs m n) :
    Calls Try.prog 7 #[.pointer (some ⟨cb, 0, none⟩), .int .i64 p] w fun e w' => e = .returned (.int .i64 (wantD rs m p)) ∧
      (∃ S', CpAt cb sb ma mp lb mb S' w' ∧ (if wantD rs m p = 0 then Rel S' (delT rs p) (m + 1) n else Rel S' rs m n)) ∧ Fr (own4 cb sb ma mb) w w' := by
  have hl := map_len hR.ers
  have hf := full_iff hR
  have err : ∀ (c : Int), c ≠ 0 → (∀ w1, StAt sb ma mp lb mb S w1 → Calls Try.prog 15 #[.pointer (some ⟨sb, 0, none⟩), .int .i64 p] w1 fun e w2 => e = .returned (.int .i64 c) ∧ Below w1.heap.size w1 w2) →
      Calls Try.prog 7 #[.pointer (some ⟨cb, 0, none⟩), .int .i64 p] w fun e w' => e = .returned (.int .i64 c) ∧ (∃ S', CpAt cb sb ma mp lb mb S' w' ∧ (if c = 0 then Rel S' (delT rs p) (m + 1) n else Rel S' rs m n)) ∧ Fr (own4 cb sb ma mb) w w' := by
    intro c hc hin
    refine (face_del cb sb ma mp lb mb S p w h (.int .i64 c) (fun w2 => StAt sb ma mp lb mb S w2) (fun w1 _ hS => ?_)).mono ?_
    · refine (hin w1 hS).mono ?_
      rintro e w2 ⟨rfl, hB⟩
      exact ⟨rfl, hS.below hB, Fr.ofBelow hB⟩
    · rintro e w' ⟨rfl, w2, hS2, hk, rfl, hF⟩
      exact ⟨rfl, ⟨S, CpAt.unlock hS2 hk, by rw [if_neg hc]; exact hR⟩, hF⟩
  by_cases c1 : p < 0 ∨ (rs.length : Int) ≤ p
  · have e : wantD rs m p = 3 := by unfold wantD; rw [if_pos c1]
    rw [e]
    exact err 3 (by omega) (fun w1 hS => stDel_place sb ma mp lb mb S p w1 hS hR.good.len (by omega))
  by_cases c3 : m = 100
  · have e : wantD rs m p = 5 := by unfold wantD; rw [if_neg c1, if_pos c3]
    rw [e]
    exact err 5 (by omega) (fun w1 hS => stDel_full sb ma mp lb mb S hR.good p w1 hS (by omega) (by omega) (by rw [hf]; simp [c3]))
  · have e : wantD rs m p = 0 := by unfold wantD; rw [if_neg c1, if_neg c3]
    rw [e]
    have hm := hR.m100
    refine (face_del cb sb ma mp lb mb S p w h (.int .i64 0) (fun w2 => ∃ S', StAt sb ma mp lb mb S' w2 ∧ Rel S' (delT rs p) (m + 1) n) (fun w1 _ hS => ?_)).mono ?_
    · refine (stDel_ok sb ma mp lb mb S hR.good p w1 hS (by omega) (by omega) (by rw [hf]; simp [c3])).mono ?_
      rintro e w2 ⟨rfl, A, x, R, hL, hA, hx, hS2, hF2⟩
      exact ⟨rfl, ⟨_, hS2, rel_del hR (by omega) hL hA hx⟩, hF2⟩
    · rintro e w' ⟨rfl, w2, ⟨S', hS2, hR2⟩, hk, rfl, hF⟩
      exact ⟨rfl, ⟨S', CpAt.unlock hS2 hk, by rw [if_pos rfl]; exact hR2⟩, hF⟩

end Go.Proofs.Ytachmkhbbbmioaa

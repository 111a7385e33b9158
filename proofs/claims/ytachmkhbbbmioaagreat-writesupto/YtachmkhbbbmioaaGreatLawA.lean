import Derived.Test.YtachmkhbbbmioaaGreatLawW
namespace Go.Proofs.YtachmkhbbbmioaaGreat
open Go.RowKit Go.Shelf

/-- Which of n things a raw number speaks of. -/
def pk (c : Int) (n : Nat) : Nat := (if c < 0 then (-(c + 1)).toNat else c.toNat) % n

theorem pk_lt (c : Int) {n : Nat} (h : 0 < n) : pk c n < n := Nat.mod_lt _ h

set_option maxHeartbeats 400000 in
theorem pickL (c : Int) (n : Nat) (hn : 0 < n) (hn2 : n ≤ 1000000) (h1 : -9223372036854775808 ≤ c) (h2 : c ≤ 9223372036854775807) (w : World) :
    Calls Tryz.prog 12 #[.int .i64 c, .int .i64 n] w fun e w' => e = .returned (.int .i64 (pk c n)) ∧ w' = w := by
  have hz : ¬ (n : Int) = 0 := by omega
  by_cases hc : c < 0
  · go_enter Tryz.func12, Tryz.ntmps12
    go_wp2
    go_ret
    refine ⟨?_, rfl⟩
    show Ending.returned (.int .i64 (-((c + 1).tmod ↑n))) = _
    have e : -((c + 1).tmod ↑n) = ((pk c n : Nat) : Int) := by
      unfold pk
      rw [if_pos hc]
      generalize hk : (-(c + 1)).toNat = k
      have e2 : c + 1 = -(k : Int) := by omega
      rw [e2, Int.neg_tmod, Int.neg_neg, Int.ofNat_tmod]
    rw [e]
  · go_enter Tryz.func12, Tryz.ntmps12
    go_wp2
    go_ret
    refine ⟨?_, rfl⟩
    show Ending.returned (.int .i64 (c % ↑n)) = _
    have e : c % ↑n = ((pk c n : Nat) : Int) := by
      unfold pk
      rw [if_neg (by omega)]
      obtain ⟨k, rfl⟩ := Int.eq_ofNat_of_zero_le (show 0 ≤ c by omega)
      simp
    rw [e]


set_option maxRecDepth 100000 in
set_option maxHeartbeats 2000000 in
/-- Every list still reads as its owner wrote it. -/
theorem looks_any (base wb : Nat) (vl vi : Value) (prs : List Pr) (irs : List IR) (w : World) (h : LawAt base wb vl vi prs irs w) (hlen : irs.length ≤ 2000000) :
    Calls Tryz.prog 17 #[.pointer (some ⟨wb, 0, none⟩)] w fun e w' => e = .returned (.bool true) ∧ Below w.heap.size w w' := by
  obtain ⟨ai, ci, hvi, hci⟩ := h.i.value
  rw [List.length_map] at hvi hci
  go_enter Tryz.func17, Tryz.ntmps17
  go_wp2_with fail
  go_loopg [3] irs.length (fun gk s3 wr => ∃ (i : Nat), s3 = .int .i64 i ∧ i ≤ irs.length ∧ gk = irs.length - i ∧ Below w.heap.size w wr)
  case atStart => exact ⟨0, rfl, by omega, rfl, Below.refl _ _⟩
  case round =>
    obtain ⟨i, rfl, hil, hgk, hB⟩ := hrel
    have h1 := h.below hB
    have c2 : wr.cell? ⟨wb, 2, none⟩ = some vi := cell_blk h1.cp 2
    have c3 : wr.cell? ⟨wb, 3, none⟩ = some (.slice none 0 0) := cell_blk h1.cp 3
    rw [hvi] at c2
    by_cases hlt : i < irs.length
    · have hli : (i : Int) < (irs.length : Int) := by omega
      have hx : irs[i]? = some irs[i] := by simp [hlt]
      generalize irs[i] = r at hx
      obtain ⟨gi, cap, cur, hv, -, hb, hcell⟩ := h1.i.cell (i := i) (x := irCells r) (by simp [hx])
      rw [List.length_map] at hv
      rw [hvi] at hv
      cases hv
      have k0 : wr.cell? ⟨gi, i * 5, none⟩ = some r.l := (cell_blk hb _).trans (hcell 0 _ rfl)
      have k1 : wr.cell? ⟨gi, i * 5 + 1, none⟩ = some r.a := (cell_blk hb _).trans (hcell 1 _ rfl)
      have k2 : wr.cell? ⟨gi, i * 5 + 2, none⟩ = some r.b := (cell_blk hb _).trans (hcell 2 _ rfl)
      have k3 : wr.cell? ⟨gi, i * 5 + 3, none⟩ = some r.c := (cell_blk hb _).trans (hcell 3 _ rfl)
      have k4 : wr.cell? ⟨gi, i * 5 + 4, none⟩ = some (.int .i64 r.m) := (cell_blk hb _).trans (hcell 4 _ rfl)
      have hI := h1.ir i r hx
      obtain ⟨rl, ra, rb, rc, rn, rm⟩ := r
      obtain ⟨al, cl, e1, -⟩ := hI.l.value
      obtain ⟨aa, ca, e2, -⟩ := hI.a.value
      obtain ⟨ab, cb, e3, -⟩ := hI.b.value
      obtain ⟨ac, cc, e4, -⟩ := hI.c.value
      simp only at e1 e2 e3 e4 k0 k1 k2 k3 k4
      rw [fullRow_len] at e1 e2 e3 e4
      subst e1 e2 e3 e4
      have hn8 := hI.n8
      simp only at hn8
      have g2 : wr.grownBy (wr.alloc (.cells #[.slice al rn cl, .slice aa (rn + 1) ca, .slice ab (rn + 2) cb, .slice ac (rn + 3) cc, .int .i64 rm] 95)) none := grown_alloc (grown_refl _) _
      have kx : (wr.alloc (.cells #[.slice al rn cl, .slice aa (rn + 1) ca, .slice ab (rn + 2) cb, .slice ac (rn + 3) cc, .int .i64 rm] 95)).heap[wr.heap.size]? = some (.cells #[.slice al rn cl, .slice aa (rn + 1) ca, .slice ab (rn + 2) cb, .slice ac (rn + 3) cc, .int .i64 rm] 95) := by rw [heap_alloc_at]; simp
      go_upto_region 5 with fail
      generalize (wr.alloc (.cells #[.slice al rn cl, .slice aa (rn + 1) ca, .slice ab (rn + 2) cb, .slice ac (rn + 3) cc, .int .i64 rm] 95)) = w2 at g2 kx ⊢
      have hI2 := hI.kept (w' := w2) (fun k hk => g2.block k (hI.lt k hk) (by simp))
      have hB2 : Below w.heap.size w w2 := hB.grown g2 hB.size (by simp)
      have d0 : w2.cell? ⟨wr.heap.size, 0, none⟩ = some (.slice al rn cl) := cell_blk kx 0
      have d1 : w2.cell? ⟨wr.heap.size, 1, none⟩ = some (.slice aa (rn + 1) ca) := cell_blk kx 1
      have d2 : w2.cell? ⟨wr.heap.size, 2, none⟩ = some (.slice ab (rn + 2) cb) := cell_blk kx 2
      have d3 : w2.cell? ⟨wr.heap.size, 3, none⟩ = some (.slice ac (rn + 3) cc) := cell_blk kx 3
      have d4 : w2.cell? ⟨wr.heap.size, 4, none⟩ = some (.int .i64 rm) := cell_blk kx 4
      have f1 := full_ints rn (by omega) rm _ w2 hI2.l
      have f2 := full_ints (rn + 1) (by omega) rm _ w2 hI2.a
      have f3 := full_ints (rn + 2) (by omega) rm _ w2 hI2.b
      have f4 := full_ints (rn + 3) (by omega) rm _ w2 hI2.c
      simp only at f1 f2 f3 f4
      clear k0 k1 k2 k3 k4 hI hI2 g2 kx hcell hb
      have F1 := hide f1
      have F2 := hide f2
      have F3 := hide f3
      have F4 := hide f4
      clear f1 f2 f3 f4
      go_wp2_with fail
      refine F1.out.mono ?_
      rintro e w' ⟨rfl, hw⟩
      rw [hw]
      clear hw w' F1
      go_wp2_with fail
      refine F2.out.mono ?_
      rintro e w' ⟨rfl, hw⟩
      rw [hw]
      clear hw w' F2
      go_wp2_with fail
      refine F3.out.mono ?_
      rintro e w' ⟨rfl, hw⟩
      rw [hw]
      clear hw w' F3
      go_wp2_with fail
      refine F4.out.mono ?_
      rintro e w' ⟨rfl, hw⟩
      rw [hw]
      clear hw w' F4
      go_wp2_with fail
      go_roundg (irs.length - (i + 1))
      case measure => omega
      case rel => exact ⟨i + 1, by go_num, by omega, rfl, hB2⟩
    · go_wp2_with fail
      go_loopg [5] 1 (fun gk s5 wr' => s5 = .int .i64 0 ∧ wr' = wr)
      case atStart => exact ⟨rfl, rfl⟩
      case round =>
        obtain ⟨rfl, hw⟩ := hrel
        rw [hw]
        go_wp2_with fail
        go_ret
        exact ⟨rfl, hB⟩

end Go.Proofs.YtachmkhbbbmioaaGreat

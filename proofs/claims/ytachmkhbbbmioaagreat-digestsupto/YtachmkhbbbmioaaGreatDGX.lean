import Derived.Test.YtachmkhbbbmioaaGreatDEX
namespace Go.Proofs.YtachmkhbbbmioaaGreat
open Go.RowKit Go.Shelf

theorem Next.mono {L L' : LS} {m m' : Nat} (h : Next L L' m) (hm : m ≤ m') : Next L L' m' := ⟨h.vl, h.prs, h.irs, h.trs, Nat.le_trans h.air (Nat.add_le_add_left hm _)⟩

set_option maxRecDepth 100000 in
set_option maxHeartbeats 8000000 in
/-- One act. -/
theorem act_d (base wb : Nat) (L : LS) (k C A B : Int) (s : ByteArray) (w : World) (h0 : WAt base wb L w) (hb0 : base ≤ w.heap.size) (hlen : L.irs.length ≤ 2000000) (hlen2 : L.trs.length ≤ 2000000) (hair : L.air.length ≤ 4000000000) (hp0 : 0 < L.prs.length) (hp9 : L.prs.length ≤ 9)
    (hC1 : -9223372036854775808 ≤ C) (hC2 : C ≤ 9223372036854775807) (hA1 : -9223372036854775808 ≤ A) (hA2 : A ≤ 9223372036854775807) (hB1 : -9223372036854775808 ≤ B) (hB2' : B ≤ 9223372036854775807) (hk : k ≤ 7 ∨ k = 11 ∨ k = 12) :
    Calls Tryz.prog 34 #[.pointer (some ⟨wb, 0, none⟩), .agg #[.int .i64 k, .int .i64 C, .int .i64 A, .int .i64 B, .string s]] w fun e w' => e = .returned (.bool true) ∧ ∃ L', Next L L' 1000 ∧ WAt base wb L' w' ∧ Below base w w' := by
  have g1 : w.grownBy (w.alloc (.cells #[.int .i64 k, .int .i64 C, .int .i64 A, .int .i64 B, .string s] 72)) none := grown_alloc (grown_refl _) _
  have k1 : (w.alloc (.cells #[.int .i64 k, .int .i64 C, .int .i64 A, .int .i64 B, .string s] 72)).heap[w.heap.size]? = some (.cells #[.int .i64 k, .int .i64 C, .int .i64 A, .int .i64 B, .string s] 72) := by
    rw [heap_alloc_at]; simp
  go_enter Tryz.func34, Tryz.ntmps34
  go_upto_region 1 with fail
  generalize (w.alloc (.cells #[.int .i64 k, .int .i64 C, .int .i64 A, .int .i64 B, .string s] 72)) = w1 at g1 k1 ⊢
  have h := h0.grown g1
  obtain ⟨b1, hb1e⟩ : ∃ b1, w.heap.size = b1 := ⟨_, rfl⟩
  have hb1 := hb0
  rw [hb1e] at k1 ⊢
  obtain ⟨i, hi⟩ : ∃ i, pk C L.prs.length = i := ⟨_, rfl⟩
  have hil : i < L.prs.length := hi ▸ pk_lt C hp0
  have hPk := fun w => pickL C L.prs.length hp0 (by omega) hC1 hC2 w
  rw [hi] at hPk
  clear hi
  obtain ⟨x, hx⟩ : ∃ x, L.prs[i]? = some x := ⟨L.prs[i], by simp [hil]⟩
  have c0 : w1.cell? ⟨wb, 0, none⟩ = some L.vl := cell_blk h.cp 0
  obtain ⟨gl, cl, cur, hvl, -, hbl, hcell⟩ := h.l.cell (i := i) (x := twoCells x) (by simp [hx])
  rw [List.length_map] at hvl
  rw [hvl] at c0
  have t0 : w1.cell? ⟨gl, i * 2, none⟩ = some (.pointer (some ⟨x.cb, 0, none⟩)) := (cell_blk hbl _).trans (hcell 0 _ rfl)
  have t1 : w1.cell? ⟨gl, i * 2 + 1, none⟩ = some (.pointer (some ⟨x.yb, 0, none⟩)) := (cell_blk hbl _).trans (hcell 1 _ rfl)
  have a1 : w1.cell? ⟨b1, 1, none⟩ = some (.int .i64 C) := cell_blk k1 1
  have hli : (i : Int) < (L.prs.length : Int) := by omega
  have HX := hide hx
  have HK := hide hk
  clear hx hk hcell
  generalize hPL : L.prs.length = m at hli hil hPk c0 hp9 hp0
  go_cut [5] (fun s5 wx => ∃ b5 : Nat, s5 = .pointer (some ⟨b5, 0, none⟩) ∧ wx.heap[b5]? = some (.cells #[.pointer (some ⟨x.cb, 0, none⟩), .pointer (some ⟨x.yb, 0, none⟩)] 39) ∧ w1.grownBy wx none)
  case first =>
    go_region_held3 (fun w' => w'.cell? ⟨wb, 0, none⟩ = some (.slice (some ⟨gl, 0, none⟩) m cl) ∧ w'.cell? ⟨b1, 1, none⟩ = some (.int .i64 C) ∧ w'.cell? ⟨gl, i * 2, none⟩ = some (.pointer (some ⟨x.cb, 0, none⟩)) ∧ w'.cell? ⟨gl, i * 2 + 1, none⟩ = some (.pointer (some ⟨x.yb, 0, none⟩))) (go_keep)
      (first | (go_at_call 12; refine (hPk _).mono ?_; rintro e w' ⟨rfl, hw⟩; rw [hw]; clear hw w'))
    all_goals
      go_wp2_with fail
      go_meet
      exact ⟨w1.heap.size, rfl, by rw [heap_drew, heap_alloc_at]; simp, grown_drew (grown_alloc (grown_refl _) _)⟩
  case rest =>
  obtain ⟨b5, rfl, k5, g5⟩ := hcut
  have h2 := h.grown g5
  have k2 := (g5.block _ (lt_of_heap k1) (by simp)).trans k1
  have g2 := grown_trans g1 g5
  have hb2 : base ≤ wc.heap.size := Nat.le_trans hb1 (Nat.le_trans g1.size g5.size)
  have hB2 : Below base w wc := (Below.refl _ w).grown g2 hb1 (by simp)
  clear t0 t1 a1 c0 hbl hPk h h0 g1 g5 g2 k1 hli
  have a0 : wc.cell? ⟨b1, 0, none⟩ = some (.int .i64 k) := cell_blk k2 0
  have a1 : wc.cell? ⟨b1, 1, none⟩ = some (.int .i64 C) := cell_blk k2 1
  have a2 : wc.cell? ⟨b1, 2, none⟩ = some (.int .i64 A) := cell_blk k2 2
  have a3 : wc.cell? ⟨b1, 3, none⟩ = some (.int .i64 B) := cell_blk k2 3
  have a4 : wc.cell? ⟨b1, 4, none⟩ = some (.string s) := cell_blk k2 4
  have t0 : wc.cell? ⟨b5, 0, none⟩ = some (.pointer (some ⟨x.cb, 0, none⟩)) := cell_blk k5 0
  have t1 : wc.cell? ⟨b5, 1, none⟩ = some (.pointer (some ⟨x.yb, 0, none⟩)) := cell_blk k5 1
  have end_write : ∀ {w3 : World}, After x wc w3 → ∃ L', Next L L' 1000 ∧ WAt base wb L' w3 ∧ Below base w w3 := by
    intro w3 hA
    obtain ⟨x', hPx, hx1, hx2, hFx, hOx⟩ := hA
    obtain ⟨hL, hB⟩ := h2.after HX.out hb2 hPx hx1 hx2 hFx hOx
    refine ⟨_, ?_, hL, hB2.trans hB⟩
    exact ⟨rfl, by simp, Nat.le_succ _, Nat.le_succ _, Nat.le_add_right _ _⟩
  have HW := hide (fun k C A B s => writes_any wb x k C A B s wc (h2.pr i x HX.out))
  have HA := hide (asks_d base wb L i x wc h2 HX.out hb2 hlen hair)
  by_cases q1 : k = 1
  · subst q1
    go_wp2_with fail
    refine (HW.out _ _ _ _ _).mono ?_
    rintro e w3 ⟨rfl, hA⟩
    go_wp2_with fail
    go_ret
    exact ⟨rfl, end_write hA⟩
  by_cases q2 : k = 2
  · subst q2
    go_wp2_with fail
    refine (HW.out _ _ _ _ _).mono ?_
    rintro e w3 ⟨rfl, hA⟩
    go_wp2_with fail
    go_ret
    exact ⟨rfl, end_write hA⟩
  by_cases q3 : k = 3
  · subst q3
    go_wp2_with fail
    refine (HA.out 3 (by omega)).mono ?_
    rintro e w3 ⟨rfl, L', hN3, -, hL3, hB3⟩
    go_wp2_with fail
    go_ret
    exact ⟨rfl, L', hN3.mono (by omega), hL3, hB2.trans hB3⟩
  by_cases q4 : k = 4
  · subst q4
    go_wp2_with fail
    refine (HA.out 4 (by omega)).mono ?_
    rintro e w3 ⟨rfl, L', hN3, -, hL3, hB3⟩
    go_wp2_with fail
    go_ret
    exact ⟨rfl, L', hN3.mono (by omega), hL3, hB2.trans hB3⟩
  by_cases q5 : k = 5
  · subst q5
    go_wp2_with fail
    refine (HA.out 5 (by omega)).mono ?_
    rintro e w3 ⟨rfl, L', hN3, -, hL3, hB3⟩
    go_wp2_with fail
    go_ret
    exact ⟨rfl, L', hN3.mono (by omega), hL3, hB2.trans hB3⟩
  by_cases q6 : k = 6
  · subst q6
    go_wp2_with fail
    refine (HA.out 6 (by omega)).mono ?_
    rintro e w3 ⟨rfl, L', hN3, -, hL3, hB3⟩
    go_wp2_with fail
    go_ret
    exact ⟨rfl, L', hN3.mono (by omega), hL3, hB2.trans hB3⟩
  by_cases q7 : k = 7
  · subst q7
    go_wp2_with fail
    refine (HA.out 7 (by omega)).mono ?_
    rintro e w3 ⟨rfl, L', hN3, -, hL3, hB3⟩
    go_wp2_with fail
    go_ret
    exact ⟨rfl, L', hN3.mono (by omega), hL3, hB2.trans hB3⟩
  have end_same : ∀ {w3 : World}, Below wc.heap.size wc w3 → ∃ L', Next L L' 1000 ∧ WAt base wb L' w3 ∧ Below base w w3 := by
    intro w3 hB
    exact ⟨L, Next.refl L 1000, h2.below hB, hB2.trans (hB.mono hb2)⟩
  by_cases q12 : k = 12
  · subst q12
    have HD := hide (digest_d base wb L i x wc h2 HX.out hb2 hlen2 hair (by omega) (by omega) 12 C A B s hC1 hC2 hA1 hA2 hB1 hB2')
    go_wp2_with fail
    refine HD.out.mono ?_
    rintro e w3 ⟨rfl, L', hN3, hL3, hB3⟩
    go_wp2_with fail
    go_ret
    exact ⟨rfl, L', hN3, hL3, hB2.trans hB3⟩
  by_cases q11 : k = 11
  · subst q11
    have HB := hide (begins_out wb A B wc)
    go_wp2_with fail
    refine HB.out.mono ?_
    rintro e w3 ⟨rfl, hB3⟩
    go_wp2_with fail
    go_ret
    exact ⟨rfl, end_same hB3⟩
  · have hk0 : k ≤ 0 := by have := HK.out; omega
    have e1 : (k == 1) = false := by simp; omega
    have e2 : (k == 2) = false := by simp; omega
    have e3 : (k == 3) = false := by simp; omega
    have e4 : (k == 4) = false := by simp; omega
    have e5 : (k == 5) = false := by simp; omega
    have e6 : (k == 6) = false := by simp; omega
    have e7 : (k == 7) = false := by simp; omega
    have e8 : (k == 8) = false := by simp; omega
    have e9 : (k == 9) = false := by simp; omega
    have e10 : (k == 10) = false := by simp; omega
    have e11 : (k == 11) = false := by simp; omega
    have e12 : (k == 12) = false := by simp; omega
    clear q1 q2 q3 q4 q5 q6 q7 q11 q12
    go_wp2_with fail
    go_ret
    exact ⟨rfl, end_same (Below.refl _ _)⟩

end Go.Proofs.YtachmkhbbbmioaaGreat

namespace Go.Proofs.YtachmkhbbbmioaaGreat
open Go.RowKit Go.Shelf

/-- An act of the script, as it lies in the caller's memory. -/
def ActIn (w : World) (b off i : Nat) (k C A B : Int) (s : ByteArray) : Prop :=
  w.cell? ⟨b, off + i * 5, none⟩ = some (.int .i64 k) ∧ w.cell? ⟨b, off + i * 5 + 1, none⟩ = some (.int .i64 C) ∧ w.cell? ⟨b, off + i * 5 + 2, none⟩ = some (.int .i64 A) ∧ w.cell? ⟨b, off + i * 5 + 3, none⟩ = some (.int .i64 B) ∧ w.cell? ⟨b, off + i * 5 + 4, none⟩ = some (.string s) ∧
    (-9223372036854775808 ≤ C ∧ C ≤ 9223372036854775807) ∧ (-9223372036854775808 ≤ A ∧ A ≤ 9223372036854775807) ∧ (-9223372036854775808 ≤ B ∧ B ≤ 9223372036854775807)

def LS.zero : LS := ⟨.slice none 0 0, .slice none 0 0, .slice none 0 0, .slice none 0 0, [], [], [], []⟩

theorem WAt.init (w : World) : WAt w.heap.size w.heap.size LS.zero (w.alloc (.cells #[.slice none 0 0, .slice none 0 0, .slice none 0 0, .slice none 0 0] 33)) := by
  refine ⟨by rw [heap_alloc_at]; simp [LS.zero], row_nil _ _ _, row_nil _ _ _, row_nil _ _ _, row_nil _ _ _, by simp [LS.zero], by simp [LS.zero], by simp [LS.zero], fun _ => 0, ?_, by simp [LS.zero], by simp [LS.zero], by simp [LS.zero]⟩
  intro k hk
  simp only [LS.own, LS.zero, Value.ownBlock, Option.toList_none, List.append_nil, List.mem_cons, List.not_mem_nil, or_false] at hk
  subst hk
  exact ⟨rfl, Nat.le_refl _⟩

/-- How great the world has become behind so many acts. -/
structure Fits (L : LS) (i : Nat) : Prop where
  irs : L.irs.length ≤ i
  trs : L.trs.length ≤ i
  air : L.air.length ≤ 1000 * i

theorem Fits.next {L L' : LS} {i : Nat} (h : Fits L i) (hn : Next L L' 1000) : Fits L' (i + 1) :=
  ⟨by have := h.irs; have := hn.irs; omega, by have := h.trs; have := hn.trs; omega, by have := h.air; have := hn.air; omega⟩

set_option maxRecDepth 100000 in
set_option maxHeartbeats 8000000 in
theorem plays_d (c : Int) (hc1 : -9223372036854775808 ≤ c) (hc2 : c ≤ 9223372036854775807) (a : Option Addr) (len cap : Nat) (hlen : len ≤ 1048576) (w : World)
    (hs : ∀ i, i < len → ∃ b off k C A B s, a = some ⟨b, off, none⟩ ∧ b < w.heap.size ∧ ActIn w b off i k C A B s) :
    Calls Tryz.prog 11 #[.int .i64 c, .slice a len cap, .int .i64 7, .bool false] w fun e w' => e = .returned (.bool true) ∧ Below w.heap.size w w' := by
  have hp8 := pk_lt c (n := 8) (by omega)
  have hPk := fun w => pickL c 8 (by omega) (by omega) hc1 hc2 w
  generalize hq : pk c 8 = q at hp8 hPk
  clear hq
  have hL0 := WAt.init w
  have hB0 : Below w.heap.size w (w.alloc (.cells #[.slice none 0 0, .slice none 0 0, .slice none 0 0, .slice none 0 0] 33)) := (Below.refl _ w).grown (grown_alloc (grown_refl _) _) (Nat.le_refl _) (by simp)
  go_enter Tryz.func11, Tryz.ntmps11
  go_upto_region 3 with (go_at_call 12; refine (hPk _).mono ?_; rintro e w' ⟨rfl, hw⟩; rw [hw]; clear hw w')
  obtain ⟨n, hn⟩ : ∃ n : Nat, 1 + (q : Int) = (n : Int) := ⟨1 + q, by omega⟩
  rw [hn]
  generalize (w.alloc (.cells #[.slice none 0 0, .slice none 0 0, .slice none 0 0, .slice none 0 0] 33)) = w1 at hL0 hB0 ⊢
  have hn8 : 1 ≤ n ∧ n ≤ 8 := by omega
  clear hn hPk hp8
  obtain ⟨base, hbase⟩ : ∃ base, w.heap.size = base := ⟨_, rfl⟩
  obtain ⟨wb, hwb⟩ : ∃ wb, w.heap.size = wb := ⟨_, rfl⟩
  have hL1 : WAt base wb LS.zero w1 := by subst hbase hwb; exact hL0
  rw [hbase] at hB0
  rw [hwb]
  go_wp2_with fail
  go_loopg [11] n (fun gk s11 wr => ∃ (i : Nat) (L : LS), s11 = .int .i64 i ∧ 1 ≤ i ∧ i ≤ n + 1 ∧ gk = n + 1 - i ∧ L.prs.length + 1 = i ∧ Fits L 0 ∧ WAt base wb L wr ∧ Below base w wr)
  case atStart => exact ⟨1, LS.zero, rfl, by omega, by omega, by omega, rfl, ⟨by simp [LS.zero], by simp [LS.zero], by simp [LS.zero]⟩, hL1, hB0⟩
  case round =>
    clear hL1 hB0
    obtain ⟨i, L, rfl, hi1, hin, hgk, hpl, hft, hL, hB⟩ := hrel
    have hbw : base ≤ wr.heap.size := by rw [← hbase]; exact hB.size
    by_cases hlt : i ≤ n
    · have hli : (i : Int) ≤ (n : Int) := by omega
      have hC := hide (begins_d base wb n i L wr hL hbw (by omega) (by omega) (by omega) (by omega))
      go_wp2_with fail
      refine hC.out.mono ?_
      rintro e w2 ⟨rfl, vl', x, hL2, hB2⟩
      go_wp2_with fail
      go_roundg (n + 1 - (i + 1))
      case measure => omega
      case rel => exact ⟨i + 1, { L with vl := vl', prs := L.prs ++ [x] }, by go_num, by omega, by omega, rfl, by simp; omega, ⟨hft.irs, hft.trs, hft.air⟩, hL2, hB.trans hB2⟩
    · have hpn : L.prs.length = n := by omega
      have hC : Hid (Calls Tryz.prog 13 #[.pointer (some ⟨wb, 0, none⟩), .int .i64 2, .int .i64 1, .bool true] wr fun e w' => e = .returned (.bool true) ∧ ∃ vl' x, WAt base wb { L with vl := vl', prs := L.prs ++ [x] } w' ∧ Below base wr w') := hide (begins_d base wb 2 1 L wr hL hbw (by omega) (by omega) (by omega) (by omega))
      go_wp2_with fail
      refine hC.out.mono ?_
      rintro e w2 ⟨rfl, vl', x, hL2, hB2⟩
      have hB3 := hB.trans hB2
      obtain ⟨L2, hL2e⟩ : ∃ L2 : LS, { L with vl := vl', prs := L.prs ++ [x] } = L2 := ⟨_, rfl⟩
      have hP3 : L2.prs.length = n + 1 := by rw [← hL2e]; simp; omega
      have hft2 : Fits L2 0 := by rw [← hL2e]; exact ⟨hft.irs, hft.trs, hft.air⟩
      rw [hL2e] at hL2
      clear hB2 hB hL hC hpl hgk hin hi1 hlt hpn hbw hL2e hft
      obtain ⟨m, hm⟩ : ∃ m, n + 1 = m := ⟨_, rfl⟩
      rw [hm] at hP3
      obtain ⟨x0, hx0⟩ : ∃ x0, L2.prs[0]? = some x0 := ⟨L2.prs[0], by simp⟩
      obtain ⟨gl, cl, cur, hvl, -, -, -⟩ := hL2.l.cell (i := 0) (x := twoCells x0) (by simp [hx0])
      rw [List.length_map, hP3] at hvl
      clear hx0
      have c0 : w2.cell? ⟨wb, 0, none⟩ = some (.slice (some ⟨gl, 0, none⟩) m cl) := by rw [← hvl]; exact cell_blk hL2.cp 0
      have hne : ((m : Int) != (n : Int) + 1) = false := by simp; omega
      have HV2 := hide hvl
      clear hvl
      go_wp2_with fail
      clear c0 hne
      have HS := hide hs
      clear hs
      go_loopg [13, 14] len (fun gk s13 s14 wr => ∃ (i : Nat) (L : LS), s13 = .bool true ∧ s14 = .int .i64 i ∧ i ≤ len ∧ gk = len - i ∧ L.prs.length = m ∧ Hid (L.vl = .slice (some ⟨gl, 0, none⟩) m cl) ∧ Fits L i ∧ WAt base wb L wr ∧ Below base w wr)
      case atStart => exact ⟨0, L2, rfl, rfl, by omega, rfl, hP3, HV2, hft2, hL2, hB3⟩
      case round =>
        clear hL2 hB3 hP3 HV2 hft2
        obtain ⟨i, L, rfl, rfl, hil, hgk, hpl, HV, hft, hL, hB⟩ := hrel
        have hbr : base ≤ wr.heap.size := by rw [← hbase]; exact hB.size
        have f1 := hft.irs
        have f2 := hft.trs
        have f3 := hft.air
        by_cases hlt : i < len
        · have hli : (i : Int) < (len : Int) := by omega
          obtain ⟨b, off, k, C, A, B, s, hae, hbw, e0, e1, e2, e3, e4, hCb, hAb, hBb⟩ := HS.out i hlt
          have kc : ∀ (o : Nat) (v : Value), w.cell? ⟨b, o, none⟩ = some v → wr.cell? ⟨b, o, none⟩ = some v := fun o v hv => (hB.cell (p := ⟨b, o, none⟩) (by rw [← hbase]; exact hbw)).trans hv
          have f0 := kc _ _ e0
          have f1' := kc _ _ e1
          have f2' := kc _ _ e2
          have f3' := kc _ _ e3
          have f4 := kc _ _ e4
          clear e0 e1 e2 e3 e4 kc HS
          subst hae
          by_cases hskip : 7 < k ∧ k ≠ 11 ∧ k ≠ 12
          · obtain ⟨hk7, hk11, hk12⟩ := hskip
            have n11 : (k != 11) = true := by simp [hk11]
            have n12 : (k != 12) = true := by simp [hk12]
            go_wp2_with fail
            go_roundg (len - (i + 1))
            case measure => omega
            case rel => exact ⟨i + 1, L, rfl, by go_num, by omega, rfl, hpl, HV, ⟨by omega, by omega, by omega⟩, hL, hB⟩
          · have hk : k ≤ 7 ∨ k = 11 ∨ k = 12 := by omega
            have HA := hide (act_d base wb L k C A B s wr hL hbr (by omega) (by omega) (by omega) (by omega) (by omega) hCb.1 hCb.2 hAb.1 hAb.2 hBb.1 hBb.2 hk)
            clear hskip
            rcases hk with hk7 | hk11 | hk12
            · have n8 : (k == 8) = false := by simp; omega
              go_upto_region 18 with fail
              go_wp2_with fail
              refine HA.out.mono ?_
              rintro e w3 ⟨rfl, L', hN, hL3, hB3⟩
              have hft3 := hft.next hN
              have HLk := hide (looks_d base wb L' w3 hL3 (by have := hft3.irs; omega) (by have := hft3.trs; omega))
              go_wp2_with fail
              refine HLk.out.mono ?_
              rintro e w4 ⟨rfl, hB4⟩
              go_wp2_with fail
              go_roundg (len - (i + 1))
              case measure => omega
              case rel => exact ⟨i + 1, L', rfl, by go_num, by omega, rfl, hN.prs.trans hpl, hide (hN.vl.trans HV.out), hft3, hL3.below hB4, (hB.trans hB3).trans (hB4.mono (Nat.le_trans hbr hB3.size))⟩
            · subst hk11
              go_upto_region 18 with fail
              go_wp2_with fail
              refine HA.out.mono ?_
              rintro e w3 ⟨rfl, L', hN, hL3, hB3⟩
              have hft3 := hft.next hN
              have HLk := hide (looks_d base wb L' w3 hL3 (by have := hft3.irs; omega) (by have := hft3.trs; omega))
              go_wp2_with fail
              refine HLk.out.mono ?_
              rintro e w4 ⟨rfl, hB4⟩
              go_wp2_with fail
              go_roundg (len - (i + 1))
              case measure => omega
              case rel => exact ⟨i + 1, L', rfl, by go_num, by omega, rfl, hN.prs.trans hpl, hide (hN.vl.trans HV.out), hft3, hL3.below hB4, (hB.trans hB3).trans (hB4.mono (Nat.le_trans hbr hB3.size))⟩
            · subst hk12
              go_upto_region 18 with fail
              go_wp2_with fail
              refine HA.out.mono ?_
              rintro e w3 ⟨rfl, L', hN, hL3, hB3⟩
              have hft3 := hft.next hN
              have HLk := hide (looks_d base wb L' w3 hL3 (by have := hft3.irs; omega) (by have := hft3.trs; omega))
              go_wp2_with fail
              refine HLk.out.mono ?_
              rintro e w4 ⟨rfl, hB4⟩
              go_wp2_with fail
              go_roundg (len - (i + 1))
              case measure => omega
              case rel => exact ⟨i + 1, L', rfl, by go_num, by omega, rfl, hN.prs.trans hpl, hide (hN.vl.trans HV.out), hft3, hL3.below hB4, (hB.trans hB3).trans (hB4.mono (Nat.le_trans hbr hB3.size))⟩
        · obtain rfl : i = len := by omega
          clear HS
          go_wp2_with fail
          go_loopg [13, 17] m (fun gk s13 s17 wr => ∃ (j : Nat) (L : LS), s13 = .bool true ∧ s17 = .int .i64 j ∧ j ≤ m ∧ gk = m - j ∧ L.prs.length = m ∧ Hid (L.vl = .slice (some ⟨gl, 0, none⟩) m cl) ∧ Fits L (i + 5 * j) ∧ WAt base wb L wr ∧ Below base w wr)
          case atStart => exact ⟨0, L, rfl, rfl, by omega, rfl, hpl, HV, hft, hL, hB⟩
          case round =>
            clear hL hB hbr hgk hft f1 f2 f3 hpl HV
            obtain ⟨j, L, rfl, rfl, hjm, hgk3, hpl, HV, hft, hL, hB⟩ := hrel
            have hbr : base ≤ wr.heap.size := by rw [← hbase]; exact hB.size
            have f1 := hft.irs
            have f2 := hft.trs
            have f3 := hft.air
            have c0 : wr.cell? ⟨wb, 0, none⟩ = some (.slice (some ⟨gl, 0, none⟩) m cl) := by rw [← HV.out]; exact cell_blk hL.cp 0
            by_cases hlt : j < m
            · have hli : (j : Int) < (m : Int) := by omega
              go_wp2_with fail
              clear c0
              go_loopg [13, 18] 5 (fun gk s13 s18 wr => ∃ (k : Nat) (L : LS), s13 = .bool true ∧ s18 = .int .i64 k ∧ 3 ≤ k ∧ k ≤ 8 ∧ gk = 8 - k ∧ L.prs.length = m ∧ Hid (L.vl = .slice (some ⟨gl, 0, none⟩) m cl) ∧ Fits L (i + 5 * j + (k - 3)) ∧ WAt base wb L wr ∧ Below base w wr)
              case atStart => exact ⟨3, L, rfl, rfl, by omega, by omega, rfl, hpl, HV, hft, hL, hB⟩
              case round =>
                clear hL hB hbr hft f1 f2 f3 hpl HV
                obtain ⟨k, L, rfl, rfl, hk3, hk8, hgk, hpl, HV, hft, hL, hB⟩ := hrel
                have hbr : base ≤ wr.heap.size := by rw [← hbase]; exact hB.size
                have f1 := hft.irs
                have f2 := hft.trs
                have f3 := hft.air
                by_cases hk7 : k ≤ 7
                · have hk7i : (k : Int) ≤ 7 := by omega
                  obtain ⟨x', hx⟩ : ∃ x, L.prs[j]? = some x := ⟨L.prs[j], by simp [hpl, hlt]⟩
                  have c0 : wr.cell? ⟨wb, 0, none⟩ = some (.slice (some ⟨gl, 0, none⟩) m cl) := by rw [← HV.out]; exact cell_blk hL.cp 0
                  obtain ⟨gl', cl', cur, hvl, -, hbl, hcell⟩ := hL.l.cell (i := j) (x := twoCells x') (by simp [hx])
                  rw [List.length_map, hpl, HV.out] at hvl
                  cases hvl
                  have t0 : wr.cell? ⟨gl, j * 2, none⟩ = some (.pointer (some ⟨x'.cb, 0, none⟩)) := (cell_blk hbl _).trans (hcell 0 _ rfl)
                  have t1 : wr.cell? ⟨gl, j * 2 + 1, none⟩ = some (.pointer (some ⟨x'.yb, 0, none⟩)) := (cell_blk hbl _).trans (hcell 1 _ rfl)
                  have HA := hide (asks_d base wb L j x' wr hL hx hbr (by omega) (by omega) k (by omega))
                  clear hcell hx hbl
                  go_wp2_with fail
                  refine HA.out.mono ?_
                  rintro e w3 ⟨rfl, L', hN, hpr, hL3, hB3⟩
                  have hft3 := hft.next (hN.mono (by omega))
                  have e8 : i + 5 * j + (k - 3) + 1 = i + 5 * j + (k + 1 - 3) := by omega
                  rw [e8] at hft3
                  go_wp2_with fail
                  go_roundg (8 - (k + 1))
                  case measure => omega
                  case rel => exact ⟨k + 1, L', rfl, by go_num, by omega, by omega, rfl, hN.prs.trans hpl, hide (hN.vl.trans HV.out), hft3, hL3, hB.trans hB3⟩
                · have hk7i : ¬ (k : Int) ≤ 7 := by omega
                  have hkd : decide ((k : Int) ≤ 7) = false := by simp; omega
                  obtain rfl : k = 8 := by omega
                  go_wp2_with fail
                  go_roundg (m - (j + 1))
                  case measure => omega
                  case rel => exact ⟨j + 1, L, rfl, by go_num, by omega, rfl, hpl, HV, by have e8 : i + 5 * (j + 1) = i + 5 * j + (8 - 3) := by { omega }; rw [e8]; exact hft, hL, hB⟩
            · have HLk := hide (looks_d base wb L wr hL (by omega) (by omega))
              go_wp2_with fail
              refine HLk.out.mono ?_
              rintro e w4 ⟨rfl, hB4⟩
              go_wp2_with fail
              go_ret
              exact ⟨rfl, by rw [hbase]; exact hB.trans (hB4.mono hbr)⟩

end Go.Proofs.YtachmkhbbbmioaaGreat

namespace Go.Proofs.YtachmkhbbbmioaaGreat
open Go.RowKit Go.Shelf

set_option maxRecDepth 100000 in
set_option maxHeartbeats 1000000 in
theorem digests_all (c : Int) (hc1 : -9223372036854775808 ≤ c) (hc2 : c ≤ 9223372036854775807) (a : Option Addr) (len cap : Nat) (hlen : len ≤ 1048576) (w : World)
    (hs : ∀ i, i < len → ∃ b off k C A B s, a = some ⟨b, off, none⟩ ∧ b < w.heap.size ∧ ActIn w b off i k C A B s) :
    Calls Tryz.prog 4 #[.int .i64 c, .slice a len cap] w fun e w' => e = .returned (.bool true) ∧ Below w.heap.size w w' := by
  have hC := hide (plays_d c hc1 hc2 a len cap hlen w hs)
  clear hs
  go_enter Tryz.func4, Tryz.ntmps4
  go_wp2_with fail
  refine hC.out.mono ?_
  rintro e w' ⟨rfl, hB⟩
  go_wp2_with fail
  go_ret
  exact ⟨rfl, hB⟩

end Go.Proofs.YtachmkhbbbmioaaGreat

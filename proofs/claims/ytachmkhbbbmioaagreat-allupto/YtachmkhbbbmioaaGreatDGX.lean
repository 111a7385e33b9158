import Derived.Test.YtachmkhbbbmioaaGreatDAX
namespace Go.Proofs.YtachmkhbbbmioaaGreat
open Go.RowKit Go.Shelf

theorem Next.mono {L L' : LS} {m m' : Nat} (h : Next L L' m) (hm : m ≤ m') : Next L L' m' := ⟨h.vl, h.prs, h.irs, h.trs, Nat.le_trans h.air (Nat.add_le_add_left hm _), h.ne⟩

set_option maxRecDepth 100000 in
set_option maxHeartbeats 8000000 in
/-- One act. -/
theorem act_d (base wb : Nat) (L : LS) (k C A B : Int) (s : ByteArray) (w : World) (h0 : WAt base wb L w) (hb0 : base ≤ w.heap.size) (hlen : L.irs.length ≤ 2000000) (hlen2 : L.trs.length ≤ 2000000) (hair : L.air.length ≤ 4000000000) (hp0 : 0 < L.prs.length) (hp9 : L.prs.length ≤ 9)
    (hC1 : -9223372036854775808 ≤ C) (hC2 : C ≤ 9223372036854775807) (hA1 : -9223372036854775808 ≤ A) (hA2 : A ≤ 9223372036854775807) (hB1 : -9223372036854775808 ≤ B) (hB2' : B ≤ 9223372036854775807) (hk : k ≤ 7 ∨ k = 11 ∨ k = 12) :
    Calls Tryz.prog 34 #[.pointer (some ⟨wb, 0, none⟩), .agg #[.int .i64 k, .int .i64 C, .int .i64 A, .int .i64 B, .string s]] w fun e w' => e = .returned (.bool true) ∧ ∃ L', Next L L' 1000 ∧ WAt base wb L' w' ∧ Below base w w' := by
  have g1 : w.grownBy (w.alloc (.cells #[.int .i64 k, .int .i64 C, .int .i64 A, .int .i64 B, .string s] 72)) none := grown_alloc (grown_refl _) _
  have k1 : (w.alloc (.cells #[.int .i64 k, .int .i64 C, .int .i64 A, .int .i64 B, .string s] 72)).heap[w.heap.size]? = some (.cells #[.int .i64 k, .int .i64 C, .int .i64 A, .int .i64 B, .string s] 72) := by
    rw [heap_alloc_at]; simp
  go_enter Tryz.func34, Tryz.ntmps34
  go_upto_region 1 with fail
  generalize (w.alloc (.cells #[.int .i64 k, .int .i64 C, .int .i64 A, .int .i64 B, .string s] 72)) = w1 at g1 k1 ⊢
  have h := h0.grown g1
  obtain ⟨b1, hb1e⟩ : ∃ b1, w.heap.size = b1 := ⟨_, rfl⟩
  have hb1 := hb0
  rw [hb1e] at k1 ⊢
  obtain ⟨i, hi⟩ : ∃ i, pk C L.prs.length = i := ⟨_, rfl⟩
  have hil : i < L.prs.length := hi ▸ pk_lt C hp0
  have hPk := fun w => pickL C L.prs.length hp0 (by omega) hC1 hC2 w
  rw [hi] at hPk
  clear hi
  obtain ⟨x, hx⟩ : ∃ x, L.prs[i]? = some x := ⟨L.prs[i], by simp [hil]⟩
  have c0 : w1.cell? ⟨wb, 0, none⟩ = some L.vl := cell_blk h.cp 0
  obtain ⟨gl, cl, cur, hvl, -, hbl, hcell⟩ := h.l.cell (i := i) (x := twoCells x) (by simp [hx])
  rw [List.length_map] at hvl
  rw [hvl] at c0
  have t0 : w1.cell? ⟨gl, i * 2, none⟩ = some (.pointer (some ⟨x.cb, 0, none⟩)) := (cell_blk hbl _).trans (hcell 0 _ rfl)
  have t1 : w1.cell? ⟨gl, i * 2 + 1, none⟩ = some (.pointer (some ⟨x.yb, 0, none⟩)) := (cell_blk hbl _).trans (hcell 1 _ rfl)
  have a1 : w1.cell? ⟨b1, 1, none⟩ = some (.int .i64 C) := cell_blk k1 1
  have hli : (i : Int) < (L.prs.length : Int) := by omega
  have HX := hide hx
  have HK := hide hk
  clear hx hk hcell
  generalize hPL : L.prs.length = m at hli hil hPk c0 hp9 hp0
  go_cut [5] (fun s5 wx => ∃ b5 : Nat, s5 = .pointer (some ⟨b5, 0, none⟩) ∧ wx.heap[b5]? = some (.cells #[.pointer (some ⟨x.cb, 0, none⟩), .pointer (some ⟨x.yb, 0, none⟩)] 39) ∧ w1.grownBy wx none)
  case first =>
    go_region_held3 (fun w' => w'.cell? ⟨wb, 0, none⟩ = some (.slice (some ⟨gl, 0, none⟩) m cl) ∧ w'.cell? ⟨b1, 1, none⟩ = some (.int .i64 C) ∧ w'.cell? ⟨gl, i * 2, none⟩ = some (.pointer (some ⟨x.cb, 0, none⟩)) ∧ w'.cell? ⟨gl, i * 2 + 1, none⟩ = some (.pointer (some ⟨x.yb, 0, none⟩))) (go_keep)
      (first | (go_at_call 12; refine (hPk _).mono ?_; rintro e w' ⟨rfl, hw⟩; rw [hw]; clear hw w'))
    all_goals
      go_wp2_with fail
      go_meet
      exact ⟨w1.heap.size, rfl, by rw [heap_drew, heap_alloc_at]; simp, grown_drew (grown_alloc (grown_refl _) _)⟩
  case rest =>
  obtain ⟨b5, rfl, k5, g5⟩ := hcut
  have h2 := h.grown g5
  have k2 := (g5.block _ (lt_of_heap k1) (by simp)).trans k1
  have g2 := grown_trans g1 g5
  have hb2 : base ≤ wc.heap.size := Nat.le_trans hb1 (Nat.le_trans g1.size g5.size)
  have hB2 : Below base w wc := (Below.refl _ w).grown g2 hb1 (by simp)
  clear t0 t1 a1 c0 hbl hPk h h0 g1 g5 g2 k1 hli
  have a0 : wc.cell? ⟨b1, 0, none⟩ = some (.int .i64 k) := cell_blk k2 0
  have a1 : wc.cell? ⟨b1, 1, none⟩ = some (.int .i64 C) := cell_blk k2 1
  have a2 : wc.cell? ⟨b1, 2, none⟩ = some (.int .i64 A) := cell_blk k2 2
  have a3 : wc.cell? ⟨b1, 3, none⟩ = some (.int .i64 B) := cell_blk k2 3
  have a4 : wc.cell? ⟨b1, 4, none⟩ = some (.string s) := cell_blk k2 4
  have t0 : wc.cell? ⟨b5, 0, none⟩ = some (.pointer (some ⟨x.cb, 0, none⟩)) := cell_blk k5 0
  have t1 : wc.cell? ⟨b5, 1, none⟩ = some (.pointer (some ⟨x.yb, 0, none⟩)) := cell_blk k5 1
  have end_write : ∀ {w3 : World}, After x wc w3 → ∃ L', Next L L' 1000 ∧ WAt base wb L' w3 ∧ Below base w w3 := by
    intro w3 hA
    obtain ⟨x', hPx, hx1, hx2, hFx, hOx⟩ := hA
    obtain ⟨hL, hB⟩ := h2.after HX.out hb2 hPx hx1 hx2 hFx hOx
    refine ⟨_, ?_, hL, hB2.trans hB⟩
    exact ⟨rfl, by simp, Nat.le_succ _, Nat.le_succ _, Nat.le_add_right _ _, fun h => h⟩
  have HW := hide (fun k C A B s => writes_any wb x k C A B s wc (h2.pr i x HX.out))
  have HA := hide (asks_d base wb L i x wc h2 HX.out hb2 hlen hair)
  by_cases q1 : k = 1
  · subst q1
    go_wp2_with fail
    refine (HW.out _ _ _ _ _).mono ?_
    rintro e w3 ⟨rfl, hA⟩
    go_wp2_with fail
    go_ret
    exact ⟨rfl, end_write hA⟩
  by_cases q2 : k = 2
  · subst q2
    go_wp2_with fail
    refine (HW.out _ _ _ _ _).mono ?_
    rintro e w3 ⟨rfl, hA⟩
    go_wp2_with fail
    go_ret
    exact ⟨rfl, end_write hA⟩
  by_cases q3 : k = 3
  · subst q3
    go_wp2_with fail
    refine (HA.out 3 (by omega)).mono ?_
    rintro e w3 ⟨rfl, L', hN3, -, hL3, hB3⟩
    go_wp2_with fail
    go_ret
    exact ⟨rfl, L', hN3.mono (by omega), hL3, hB2.trans hB3⟩
  by_cases q4 : k = 4
  · subst q4
    go_wp2_with fail
    refine (HA.out 4 (by omega)).mono ?_
    rintro e w3 ⟨rfl, L', hN3, -, hL3, hB3⟩
    go_wp2_with fail
    go_ret
    exact ⟨rfl, L', hN3.mono (by omega), hL3, hB2.trans hB3⟩
  by_cases q5 : k = 5
  · subst q5
    go_wp2_with fail
    refine (HA.out 5 (by omega)).mono ?_
    rintro e w3 ⟨rfl, L', hN3, -, hL3, hB3⟩
    go_wp2_with fail
    go_ret
    exact ⟨rfl, L', hN3.mono (by omega), hL3, hB2.trans hB3⟩
  by_cases q6 : k = 6
  · subst q6
    go_wp2_with fail
    refine (HA.out 6 (by omega)).mono ?_
    rintro e w3 ⟨rfl, L', hN3, -, hL3, hB3⟩
    go_wp2_with fail
    go_ret
    exact ⟨rfl, L', hN3.mono (by omega), hL3, hB2.trans hB3⟩
  by_cases q7 : k = 7
  · subst q7
    go_wp2_with fail
    refine (HA.out 7 (by omega)).mono ?_
    rintro e w3 ⟨rfl, L', hN3, -, hL3, hB3⟩
    go_wp2_with fail
    go_ret
    exact ⟨rfl, L', hN3.mono (by omega), hL3, hB2.trans hB3⟩
  have end_same : ∀ {w3 : World}, Below wc.heap.size wc w3 → ∃ L', Next L L' 1000 ∧ WAt base wb L' w3 ∧ Below base w w3 := by
    intro w3 hB
    exact ⟨L, Next.refl L 1000, h2.below hB, hB2.trans (hB.mono hb2)⟩
  by_cases q12 : k = 12
  · subst q12
    have HD := hide (digest_d base wb L i x wc h2 HX.out hb2 hlen2 hair (by omega) (by omega) 12 C A B s hC1 hC2 hA1 hA2 hB1 hB2')
    go_wp2_with fail
    refine HD.out.mono ?_
    rintro e w3 ⟨rfl, L', hN3, hL3, hB3⟩
    go_wp2_with fail
    go_ret
    exact ⟨rfl, L', hN3, hL3, hB2.trans hB3⟩
  by_cases q11 : k = 11
  · subst q11
    have HB := hide (begins_out wb A B wc)
    go_wp2_with fail
    refine HB.out.mono ?_
    rintro e w3 ⟨rfl, hB3⟩
    go_wp2_with fail
    go_ret
    exact ⟨rfl, end_same hB3⟩
  · have hk0 : k ≤ 0 := by have := HK.out; omega
    have e1 : (k == 1) = false := by simp; omega
    have e2 : (k == 2) = false := by simp; omega
    have e3 : (k == 3) = false := by simp; omega
    have e4 : (k == 4) = false := by simp; omega
    have e5 : (k == 5) = false := by simp; omega
    have e6 : (k == 6) = false := by simp; omega
    have e7 : (k == 7) = false := by simp; omega
    have e8 : (k == 8) = false := by simp; omega
    have e9 : (k == 9) = false := by simp; omega
    have e10 : (k == 10) = false := by simp; omega
    have e11 : (k == 11) = false := by simp; omega
    have e12 : (k == 12) = false := by simp; omega
    clear q1 q2 q3 q4 q5 q6 q7 q11 q12
    go_wp2_with fail
    go_ret
    exact ⟨rfl, end_same (Below.refl _ _)⟩

end Go.Proofs.YtachmkhbbbmioaaGreat

namespace Go.Proofs.YtachmkhbbbmioaaGreat
open Go.RowKit Go.Shelf

theorem tdiv_range (b : Int) (n : Nat) (hn : 0 < n) (hb1 : -9223372036854775808 ≤ b) (hb2 : b ≤ 9223372036854775807) : -9223372036854775808 ≤ b.tdiv n ∧ b.tdiv n ≤ 9223372036854775807 := by
  have key : ∀ m : Int, 0 ≤ m → 0 ≤ m.tdiv n ∧ m.tdiv n ≤ m := fun m hm => ⟨Int.tdiv_nonneg hm (by omega), Int.tdiv_le_self _ hm⟩
  rcases Int.le_total 0 b with h | h
  · have := key b h; omega
  · have h2 := key (-b) (by omega)
    have e : b.tdiv n = -((-b).tdiv n) := by rw [Int.neg_tdiv]; omega
    omega


set_option maxRecDepth 100000 in
set_option maxHeartbeats 4000000 in
theorem spoiltL (s : List UInt8) (hs : SOk s) (b : Int) (hb1 : -9223372036854775808 ≤ b) (hb2 : b ≤ 9223372036854775807) (w : World) :
    Calls Tryz.prog 93 #[str s, .int .i64 b] w fun e w' => ∃ t : List UInt8, e = .returned (str t) ∧ w.grownBy w' none := by
  have h0 : 0 < s.length := by cases s with | nil => exact (hs.1 rfl).elim | cons a l => simp
  have hl := hs.2
  have hP1 := fun w => pickL b s.length h0 (by omega) hb1 hb2 w
  have hil := pk_lt b h0
  have HP2 := hide (fun c h1 h2 w => pickL c 8 (by omega) (by omega) h1 h2 w)
  generalize pk b s.length = i at hP1 hil
  have HP1 := hide hP1
  clear hP1
  have hne : ¬ (s.length : Int) = 0 := by omega
  go_enter Tryz.func93, Tryz.ntmps93
  go_wp2_with fail
  refine (HP1.out _).mono ?_
  rintro e w1 ⟨rfl, rfl⟩
  go_wp2_with fail
  obtain ⟨q1, q2⟩ := tdiv_range b s.length h0 hb1 hb2
  have hm8 := pk_lt (b.tdiv s.length) (n := 8) (by omega)
  have HP3 := hide (HP2.out (b.tdiv s.length) q1 q2)
  generalize pk (b.tdiv s.length) 8 = m at HP3 hm8
  refine (HP3.out _).mono ?_
  rintro e w2 ⟨rfl, rfl⟩
  obtain ⟨c, hc⟩ : ∃ c, s[i]? = some c := ⟨s[i], by simp [hil]⟩
  have hix : ∀ w, (Instr.index 9 (str s) (.int .i64 (i : Int))).run Tryz.prog w = .ok (.int .u8 (c.toNat : Int)) w := fun w => sindex s i c hc w
  have hsl := fun w => str_take s i (by omega) w
  have hsd := fun w => str_drop s (i + 1) (by omega) w
  have hwi : IntKind.i64.wrap ((i : Int) + 1) = (i : Int) + 1 := by rw [IntKind.wrap_i64]; omega
  rw [show ((i + 1 : Nat) : Int) = (i : Int) + 1 by omega] at hsd
  have hX : 0 ≤ bits .xor .u8 (c.toNat : Int) (2 ^ m % 256) ∧ bits .xor .u8 (c.toNat : Int) (2 ^ m % 256) < 256 := by
    show 0 ≤ IntKind.u8.wrap _ ∧ IntKind.u8.wrap _ < 256
    rw [IntKind.wrap_u8]
    omega
  have hcv := fun (w : World) (a : Nat) (h : w.cell? ⟨a, 0, none⟩ = some (.int .u8 (bits .xor .u8 (c.toNat : Int) (2 ^ m % 256)))) => @conv1 w a _ h hX.1 hX.2
  clear hX hc
  go_wp2_with fail
  go_region
  all_goals
    go_wp2_with fail
    generalize ((⟨(s.take i).toArray⟩ : ByteArray) ++ ⟨#[UInt8.ofNat (bits .xor .u8 (c.toNat : Int) (2 ^ m % 256)).toNat]⟩ ++ ⟨(s.drop (i + 1)).toArray⟩) = BB
    exact bodyPost_ret (v := .string BB) (by simp [results, Tryz.results93, go_sem]) rfl ⟨BB.data.toList, by cases BB; simp, by repeat (first | exact grown_refl _ | refine grown_drew ?_ | refine grown_alloc ?_ _)⟩

set_option maxRecDepth 100000 in
set_option maxHeartbeats 8000000 in
theorem flies_any (base wb : Nat) (L : LS) (j : Nat) (x : Pr) (w : World) (h0 : WAt base wb L w) (hj : L.prs[j]? = some x) (hb0 : base ≤ w.heap.size) (hlen : L.trs.length ≤ 2000000) (hair : L.air.length ≤ 4000000000) (hne : ∀ s ∈ L.air, SOk s)
    (k C A B : Int) (s0 : ByteArray) (hk : k = 9 ∨ k = 10) (hA1 : -9223372036854775808 ≤ A) (hA2 : A ≤ 9223372036854775807) (hB1 : -9223372036854775808 ≤ B) (hB2 : B ≤ 9223372036854775807) :
    Calls Tryz.prog 66 #[.pointer (some ⟨wb, 0, none⟩), .agg #[.pointer (some ⟨x.cb, 0, none⟩), .pointer (some ⟨x.yb, 0, none⟩)], .agg #[.int .i64 k, .int .i64 C, .int .i64 A, .int .i64 B, .string s0]] w fun e w' => e = .returned (.bool true) ∧ ∃ L', Next L L' 1000 ∧ WAt base wb L' w' ∧ Below base w w' := by
  have g1 : w.grownBy ((w.alloc (.cells #[.pointer (some ⟨x.cb, 0, none⟩), .pointer (some ⟨x.yb, 0, none⟩)] 39)).alloc (.cells #[.int .i64 k, .int .i64 C, .int .i64 A, .int .i64 B, .string s0] 72)) none := grown_alloc (grown_alloc (grown_refl _) _) _
  have k1 : ((w.alloc (.cells #[.pointer (some ⟨x.cb, 0, none⟩), .pointer (some ⟨x.yb, 0, none⟩)] 39)).alloc (.cells #[.int .i64 k, .int .i64 C, .int .i64 A, .int .i64 B, .string s0] 72)).heap[w.heap.size]? = some (.cells #[.pointer (some ⟨x.cb, 0, none⟩), .pointer (some ⟨x.yb, 0, none⟩)] 39) := by
    simp only [heap_alloc_at, World.size_alloc]; simp
  have k2 : ((w.alloc (.cells #[.pointer (some ⟨x.cb, 0, none⟩), .pointer (some ⟨x.yb, 0, none⟩)] 39)).alloc (.cells #[.int .i64 k, .int .i64 C, .int .i64 A, .int .i64 B, .string s0] 72)).heap[w.heap.size + 1]? = some (.cells #[.int .i64 k, .int .i64 C, .int .i64 A, .int .i64 B, .string s0] 72) := by
    simp only [heap_alloc_at, World.size_alloc]; simp
  go_enter Tryz.func66, Tryz.ntmps66
  go_upto_region 1 with fail
  generalize ((w.alloc (.cells #[.pointer (some ⟨x.cb, 0, none⟩), .pointer (some ⟨x.yb, 0, none⟩)] 39)).alloc (.cells #[.int .i64 k, .int .i64 C, .int .i64 A, .int .i64 B, .string s0] 72)) = w1 at g1 k1 k2 ⊢
  have h := h0.grown g1
  have hb : base ≤ w1.heap.size := Nat.le_trans hb0 g1.size
  have hBw1 : Below base w w1 := (Below.refl _ w).grown g1 hb0 (by simp)
  obtain ⟨b1, hb1e⟩ : ∃ b1, w.heap.size = b1 := ⟨_, rfl⟩
  rw [hb1e] at k1 k2 ⊢
  obtain ⟨b2, hb2e⟩ : ∃ b2, b1 + 1 = b2 := ⟨_, rfl⟩
  rw [hb2e] at k2 ⊢
  have ht0 : w1.cell? ⟨b1, 0, none⟩ = some (.pointer (some ⟨x.cb, 0, none⟩)) := cell_blk k1 0
  have ht1 : w1.cell? ⟨b1, 1, none⟩ = some (.pointer (some ⟨x.yb, 0, none⟩)) := cell_blk k1 1
  have ha0 : w1.cell? ⟨b2, 0, none⟩ = some (.int .i64 k) := cell_blk k2 0
  have ha2 : w1.cell? ⟨b2, 2, none⟩ = some (.int .i64 A) := cell_blk k2 2
  have ha3 : w1.cell? ⟨b2, 3, none⟩ = some (.int .i64 B) := cell_blk k2 3
  obtain ⟨aa, ca, hva, -⟩ := h.ar.value
  rw [strRow_len] at hva
  have y1 : w1.cell? ⟨wb, 1, none⟩ = some (.slice aa L.air.length ca) := by rw [← hva]; exact cell_blk h.cp 1
  have Nb1 := hide (fun k hk => by have := (h0.pr j x hj).lt k hk; omega : ∀ k ∈ x.own, k < b1)
  have hb12 : b1 < b2 := by omega
  clear h0 hb1e hb2e
  by_cases hl0 : L.air.length = 0
  · have hl0i : (L.air.length : Int) = 0 := by omega
    rw [hl0] at y1
    go_wp2_with fail
    go_ret
    exact ⟨rfl, L, Next.refl L 1000, h, hBw1⟩
  · have hz : ((L.air.length : Int) == 0) = false := by rw [beq_eq_false_iff_ne]; omega
    have hpos : 0 < L.air.length := by omega
    have HPk := hide (fun n : Nat => pickL A L.air.length hpos (by omega) hA1 hA2 (w1.drewN n))
    have hil := pk_lt A hpos
    generalize pk A L.air.length = i at HPk hil
    have hili : (i : Int) < (L.air.length : Int) := by omega
    obtain ⟨s, hs⟩ : ∃ s, L.air[i]? = some s := ⟨L.air[i], by simp [hil]⟩
    have hsok := hne s (List.mem_of_getElem? hs)
    obtain ⟨ga, ca', cur, hva', -, hba, hca⟩ := h.ar.cell (i := i) (x := [str s]) (by simp [strRow, hs])
    rw [strRow_len, hva] at hva'
    cases hva'
    have r0 : w1.cell? ⟨ga, i, none⟩ = some (str s) := (cell_blk hba _).trans (by simpa using hca 0 _ rfl)
    have HVA := hide hva
    have HS := hide hs
    clear hca hba hva hs hl0
    generalize hn : L.air.length = n at hz hpos hil hili y1 HPk HVA
    have HN := hide hn
    clear hn
    go_wp2_with fail
    go_quiet ((go_at_call 12; exact Calls.quiet_of_same (HPk.out _)))
    have g2 : w1.grownBy (w1.drewN nq) none := grown_drewN _ _
    generalize w1.drewN nq = w2 at g2 ⊢
    have h2 := h.grown g2
    have hb2 : base ≤ w2.heap.size := Nat.le_trans hb g2.size
    have hBw2 : Below base w w2 := hBw1.grown g2 hb (by simp)
    have kk1 := (g2.block _ (lt_of_heap k1) (by simp)).trans k1
    have kk2 := (g2.block _ (lt_of_heap k2) (by simp)).trans k2
    have n1 : b1 ∉ x.own := by
      intro q
      have := Nb1.out b1 q
      omega
    have n2 : b2 ∉ x.own := by
      intro q
      have := Nb1.out b2 q
      omega
    have t0 := cell_of_grown ht0 g2
    have t1 := cell_of_grown ht1 g2
    have a0 := cell_of_grown ha0 g2
    have a3 := cell_of_grown ha3 g2
    have z1 := cell_of_grown y1 g2
    have z0 := cell_of_grown r0 g2
    have har : RowAt 9 1 (.slice (some ⟨ga, 0, none⟩) n ca) (strRow L.air) w2 := by rw [← HVA.out]; exact h2.ar
    clear ht0 ht1 ha0 ha2 ha3 y1 r0 h hb hBw1 g2 k1 k2 HPk g1
    have HE : Hid (∀ L1 : LS, L1.vl = L.vl → L1.prs = L.prs → L1.irs = L.irs → L1.trs = L.trs → L1.air.length ≤ L.air.length → (∀ s ∈ L1.air, s ∈ L.air) → ∀ L', Next L1 L' 1000 → Next L L' 1000) := hide (fun L1 e1 e2 e3 e4 e5 e6 L' hN => ⟨hN.vl.trans e1, by rw [hN.prs, e2], by have := hN.irs; rw [e3] at this; exact this, by have := hN.trs; rw [e4] at this; exact this, by have := hN.air; omega, fun q => hN.ne (fun t ht => q t (e6 t ht))⟩)
    rcases hk with rfl | rfl
    · by_cases hB : 0 ≤ B
      · obtain ⟨u1, hs1, hsrc1⟩ := har.lo (t := 26) (by kernel_rfl) (fun w => by kernel_rfl) i (by rw [strRow_len, HN.out]; omega)
        obtain ⟨u2, hs2, hsrc2⟩ := har.hi (t := 26) (by kernel_rfl) (fun w => by kernel_rfl) (i + 1) (by rw [strRow_len, HN.out]; omega)
        rw [show ((i + 1 : Nat) : Int) = (i : Int) + 1 by omega] at hs2
        have hwi : IntKind.i64.wrap ((i : Int) + 1) = (i : Int) + 1 := by rw [IntKind.wrap_i64]; have := HN.out; omega
        have hq1 := hsrc1 w2 (fun _ _ => rfl)
        have hnil := row_nil 9 1 w2
        have hl1 : ((strRow L.air).take i).length ≤ 4000000000 := by rw [List.length_take, strRow_len]; omega
        have hl2 : ((strRow L.air).drop (i + 1)).length ≤ 4000000000 := by rw [List.length_drop, strRow_len]; omega
        clear hsrc1
        go_upto_region 10 with (at_builtin; refine wpList_row Tryz.underlying26 infoStr rfl (by decide) rfl _ _ rfl (.slice none 0 0) [] rfl hnil u1 _ rfl hq1 (fun z hz => strRow_one _ z (List.mem_of_mem_take hz)) (fun z hz => strRow_cell _ z (List.mem_of_mem_take hz)) (by unfold maxLen; simp only [List.length_nil]; omega) (by simp only [List.length_nil]; omega) ?_; intro v1 w8 hR8 hg8 hat8)
        have hv1 : ∀ b, v1.ownBlock = some b → w2.heap.size ≤ b := by
          intro b hb
          rcases hat8 with q | q
          · rw [q] at hb; cases hb
          · rw [q] at hb; cases hb; exact Nat.le_refl _
        rw [List.nil_append] at hR8
        have K8 : ∀ k, k < w2.heap.size → w8.heap[k]? = w2.heap[k]? := fun k hk => hg8.block k hk (by simp [Value.ownBlock])
        have hs8 : w2.heap.size ≤ w8.heap.size := hg8.size
        have hF8 : Fr (wb :: L.va.ownBlock.toList) w2 w8 := (Fr.refl _ w2).grown hg8 (by simp [Value.ownBlock])
        have z18 : w8.cell? ⟨wb, 1, none⟩ = some (.slice (some ⟨ga, 0, none⟩) n ca) := (World.cell?_of_block (a := ⟨wb, 1, none⟩) (K8 wb (lt_of_heap h2.cp))).trans z1
        have hq2 := hsrc2 w8 (fun g hg => K8 g (har.lt hg))
        clear hg8 hat8 hq1 hnil hs1 hsrc2
        have F10 : Hid (∀ (w10 : World), w8.grownBy w10 v1.ownBlock → (∀ k, k < w2.heap.size → w10.heap[k]? = w2.heap[k]?) ∧ w10.cell? ⟨wb, 1, none⟩ = some (.slice (some ⟨ga, 0, none⟩) n ca) ∧ w10.frozen? ⟨wb, 1, none⟩ = false) := hide (by
          intro w10 hg10
          have K10 : ∀ k, k < w2.heap.size → w10.heap[k]? = w2.heap[k]? := fun k hk => (hg10.block k (by omega) (fun q => by have := hv1 k q.symm; omega)).trans (K8 k hk)
          have hy := (K10 wb (lt_of_heap h2.cp)).trans h2.cp
          exact ⟨K10, (World.cell?_of_block (a := ⟨wb, 1, none⟩) (K10 wb (lt_of_heap h2.cp))).trans z1, frozen_blk hy 1⟩)
        go_upto_region 11 with (at_builtin; refine wpList_row Tryz.underlying26 infoStr rfl (by decide) rfl _ _ rfl v1 _ rfl hR8 u2 _ rfl hq2 (fun z hz => strRow_one _ z (List.mem_of_mem_drop hz)) (fun z hz => strRow_cell _ z (List.mem_of_mem_drop hz)) (by unfold maxLen; omega) (by omega) ?_; intro v3 w10 hR10 hg10 hat10; obtain ⟨K10, y6, f6⟩ := F10.out w10 hg10; obtain ⟨a3', c3, hv3, -⟩ := hR10.value; generalize hn3 : ((strRow L.air).take i ++ (strRow L.air).drop (i + 1)).length = n3 at hv3; clear hn3; subst hv3)
        have hv3 : ∀ b, (Value.slice a3' n3 c3).ownBlock = some b → w2.heap.size ≤ b := by
          intro b hb
          rcases hat10 with q | q
          · exact hv1 b (q ▸ hb)
          · rw [q] at hb; cases hb; omega
        have k10 := (K10 wb (lt_of_heap h2.cp)).trans h2.cp
        have hwbn : (Value.slice a3' n3 c3).ownBlock ≠ some wb := fun q => by have := hv3 wb q; have := lt_of_heap h2.cp; omega
        have eR : strRow (L.air.take i ++ L.air.drop (i + 1)) = (strRow L.air).take i ++ (strRow L.air).drop (i + 1) := by simp [strRow]
        obtain ⟨hL1, hB1'⟩ := h2.aired (w' := w10.setCell ⟨wb, 1, none⟩ (.slice a3' n3 c3)) (va' := .slice a3' n3 c3) (air' := L.air.take i ++ L.air.drop (i + 1)) hb2 ((set_blk k10).trans rfl)
          (by rw [eR]; exact hR10.kept (fun g hg => Below.heap_setCell _ _ _ _ (fun e => hwbn (by have e' : g = wb := e; rw [← e']; exact hg))))
          ((hF8.grown hg10 (fun k hk => .inr (by have := hv1 k hk; omega))).setCell (p := ⟨wb, 1, none⟩) (.inl (by simp)) _) (fun k hk => .inr (hv3 k hk))
        have nb1 : b1 ≠ wb := fun q => by rw [q, h2.cp] at kk1; simp at kk1
        have kx1 : (w10.setCell ⟨wb, 1, none⟩ (.slice a3' n3 c3)).heap[b1]? = some (.cells #[.pointer (some ⟨x.cb, 0, none⟩), .pointer (some ⟨x.yb, 0, none⟩)] 39) := ((Below.heap_setCell _ _ _ _ nb1).trans (K10 b1 (lt_of_heap kk1))).trans kk1
        have hb11 : base ≤ (w10.setCell ⟨wb, 1, none⟩ (.slice a3' n3 c3)).heap.size := Nat.le_trans hb2 hB1'.size
        have HL1 : Hid ((L.air.take i ++ L.air.drop (i + 1)).length ≤ L.air.length ∧ ∀ t ∈ L.air.take i ++ L.air.drop (i + 1), t ∈ L.air) := hide ⟨by simp; omega, fun t ht => (List.mem_append.1 ht).elim List.mem_of_mem_take List.mem_of_mem_drop⟩
        have HH := hide (handles_any base wb { L with va := .slice a3' n3 c3, air := L.air.take i ++ L.air.drop (i + 1) } j x _ hL1 hj hb11 hlen (Nat.le_trans HL1.out.1 (by have := HN.out; omega)) s)
        generalize (w10.setCell ⟨wb, 1, none⟩ (.slice a3' n3 c3)) = w11 at hL1 hB1' kx1 hb11 HH ⊢
        have tx0 : w11.cell? ⟨b1, 0, none⟩ = some (.pointer (some ⟨x.cb, 0, none⟩)) := cell_blk kx1 0
        have tx1 : w11.cell? ⟨b1, 1, none⟩ = some (.pointer (some ⟨x.yb, 0, none⟩)) := cell_blk kx1 1
        clear hL1 F10 hR10 hg10 hat10 K10 y6 f6 hs2 hq2 hR8 K8 hF8 z18 k10 eR
        go_wp2_with fail
        refine HH.out.mono ?_
        rintro e w12 ⟨rfl, L', hN', hL', hB', -⟩
        go_wp2_with fail
        go_ret
        exact ⟨rfl, L', HE.out { L with va := .slice a3' n3 c3, air := L.air.take i ++ L.air.drop (i + 1) } rfl rfl rfl rfl HL1.out.1 HL1.out.2 L' hN', hL', (hBw2.trans hB1').trans hB'⟩
      · have hBd : decide (0 ≤ B) = false := decide_eq_false hB
        have HH := hide (handles_any base wb L j x w2 h2 hj hb2 hlen (by have := HN.out; omega) s)
        go_wp2_with fail
        refine HH.out.mono ?_
        rintro e w12 ⟨rfl, L', hN', hL', hB', -⟩
        go_wp2_with fail
        go_ret
        exact ⟨rfl, L', hN', hL', hBw2.trans hB'⟩
    · have HSp := hide (spoiltL s hsok B hB1 hB2 w2.drew)
      have HH := hide (fun (w3 : World) (g3 : w2.grownBy w3 none) (t : List UInt8) => handles_any base wb L j x w3 (h2.grown g3) hj (Nat.le_trans hb2 g3.size) hlen (by have := HN.out; omega) t)
      have hnv : L.vt.ownBlock ≠ some b1 ∧ L.va.ownBlock ≠ some b1 ∧ L.vt.ownBlock ≠ some b2 ∧ L.va.ownBlock ≠ some b2 := ⟨h2.t.neBlk kk1 (by decide), h2.ar.neBlk kk1 (by decide), h2.t.neBlk kk2 (by decide), h2.ar.neBlk kk2 (by decide)⟩
      have nb1 : b1 ≠ wb := fun q => by rw [q, h2.cp] at kk1; simp at kk1
      have nb2 : b2 ≠ wb := fun q => by rw [q, h2.cp] at kk2; simp at kk2
      go_wp2_with fail
      go_region_held3 (fun w' => w'.cell? ⟨b1, 0, none⟩ = some (.pointer (some ⟨x.cb, 0, none⟩)) ∧ w'.cell? ⟨b1, 1, none⟩ = some (.pointer (some ⟨x.yb, 0, none⟩)) ∧ w'.cell? ⟨b2, 3, none⟩ = some (.int .i64 B))
        (first | go_keep | exact ⟨ck1 _ _ t0, ck1 _ _ t1, ck2 _ _ a3⟩)
        (first | (go_at_call 93; refine HSp.out.mono ?_; rintro e w3 ⟨t, rfl, g3⟩; have ck1 : ∀ (o : Nat) (v : Value), w2.cell? ⟨b1, o, none⟩ = some v → w3.cell? ⟨b1, o, none⟩ = some v := fun o v hv => cell_of_grown hv (grown_trans (grown_drew (grown_refl w2)) g3); have ck2 : ∀ (o : Nat) (v : Value), w2.cell? ⟨b2, o, none⟩ = some v → w3.cell? ⟨b2, o, none⟩ = some v := fun o v hv => cell_of_grown hv (grown_trans (grown_drew (grown_refl w2)) g3)) | (go_at_call 14; refine (HH.out _ (grown_trans (grown_drew (grown_refl w2)) g3) t).mono ?_; rintro e w12 ⟨rfl, L', hN', hL', hB', hK'⟩; have ck1 : ∀ (o : Nat) (v : Value), w2.cell? ⟨b1, o, none⟩ = some v → w12.cell? ⟨b1, o, none⟩ = some v := (fun o v hv => (World.cell?_of_block (a := ⟨b1, o, none⟩) (hK' b1 (Nat.lt_of_lt_of_le (lt_of_heap kk1) g3.size) nb1 n1 hnv.1 hnv.2.1)).trans (cell_of_grown hv (grown_trans (grown_drew (grown_refl w2)) g3))); have ck2 : ∀ (o : Nat) (v : Value), w2.cell? ⟨b2, o, none⟩ = some v → w12.cell? ⟨b2, o, none⟩ = some v := (fun o v hv => (World.cell?_of_block (a := ⟨b2, o, none⟩) (hK' b2 (Nat.lt_of_lt_of_le (lt_of_heap kk2) g3.size) nb2 n2 hnv.2.2.1 hnv.2.2.2)).trans (cell_of_grown hv (grown_trans (grown_drew (grown_refl w2)) g3)))))
      all_goals
        go_wp2_with fail
        go_ret
        exact ⟨rfl, L', hN', hL', (hBw2.grown (grown_trans (grown_drew (grown_refl w2)) g3) hb2 (by simp)).trans hB'⟩

end Go.Proofs.YtachmkhbbbmioaaGreat

namespace Go.Proofs.YtachmkhbbbmioaaGreat
open Go.RowKit Go.Shelf

set_option maxRecDepth 100000 in
set_option maxHeartbeats 8000000 in
/-- One act. -/
theorem act_any (base wb : Nat) (L : LS) (k C A B : Int) (s : ByteArray) (w : World) (h0 : WAt base wb L w) (hb0 : base ≤ w.heap.size) (hlen : L.irs.length ≤ 2000000) (hlen2 : L.trs.length ≤ 2000000) (hair : L.air.length ≤ 4000000000) (hne : ∀ s ∈ L.air, SOk s) (hp0 : 0 < L.prs.length) (hp9 : L.prs.length ≤ 9)
    (hC1 : -9223372036854775808 ≤ C) (hC2 : C ≤ 9223372036854775807) (hA1 : -9223372036854775808 ≤ A) (hA2 : A ≤ 9223372036854775807) (hB1 : -9223372036854775808 ≤ B) (hB2' : B ≤ 9223372036854775807) :
    Calls Tryz.prog 34 #[.pointer (some ⟨wb, 0, none⟩), .agg #[.int .i64 k, .int .i64 C, .int .i64 A, .int .i64 B, .string s]] w fun e w' => e = .returned (.bool true) ∧ ∃ L', Next L L' 1000 ∧ WAt base wb L' w' ∧ Below base w w' := by
  obtain ⟨sl, rfl⟩ : ∃ sl : List UInt8, s = ⟨sl.toArray⟩ := ⟨s.data.toList, by cases s; simp⟩
  have g1 : w.grownBy (w.alloc (.cells #[.int .i64 k, .int .i64 C, .int .i64 A, .int .i64 B, .string ⟨sl.toArray⟩] 72)) none := grown_alloc (grown_refl _) _
  have k1 : (w.alloc (.cells #[.int .i64 k, .int .i64 C, .int .i64 A, .int .i64 B, .string ⟨sl.toArray⟩] 72)).heap[w.heap.size]? = some (.cells #[.int .i64 k, .int .i64 C, .int .i64 A, .int .i64 B, .string ⟨sl.toArray⟩] 72) := by
    rw [heap_alloc_at]; simp
  go_enter Tryz.func34, Tryz.ntmps34
  go_upto_region 1 with fail
  generalize (w.alloc (.cells #[.int .i64 k, .int .i64 C, .int .i64 A, .int .i64 B, .string ⟨sl.toArray⟩] 72)) = w1 at g1 k1 ⊢
  have h := h0.grown g1
  obtain ⟨b1, hb1e⟩ : ∃ b1, w.heap.size = b1 := ⟨_, rfl⟩
  have hb1 := hb0
  rw [hb1e] at k1 ⊢
  obtain ⟨i, hi⟩ : ∃ i, pk C L.prs.length = i := ⟨_, rfl⟩
  have hil : i < L.prs.length := hi ▸ pk_lt C hp0
  have hPk := fun w => pickL C L.prs.length hp0 (by omega) hC1 hC2 w
  rw [hi] at hPk
  clear hi
  obtain ⟨x, hx⟩ : ∃ x, L.prs[i]? = some x := ⟨L.prs[i], by simp [hil]⟩
  have c0 : w1.cell? ⟨wb, 0, none⟩ = some L.vl := cell_blk h.cp 0
  obtain ⟨gl, cl, cur, hvl, -, hbl, hcell⟩ := h.l.cell (i := i) (x := twoCells x) (by simp [hx])
  rw [List.length_map] at hvl
  rw [hvl] at c0
  have t0 : w1.cell? ⟨gl, i * 2, none⟩ = some (.pointer (some ⟨x.cb, 0, none⟩)) := (cell_blk hbl _).trans (hcell 0 _ rfl)
  have t1 : w1.cell? ⟨gl, i * 2 + 1, none⟩ = some (.pointer (some ⟨x.yb, 0, none⟩)) := (cell_blk hbl _).trans (hcell 1 _ rfl)
  have a1 : w1.cell? ⟨b1, 1, none⟩ = some (.int .i64 C) := cell_blk k1 1
  have hli : (i : Int) < (L.prs.length : Int) := by omega
  have HX := hide hx
  clear hx hcell
  generalize hPL : L.prs.length = m at hli hil hPk c0 hp9 hp0
  go_cut [5] (fun s5 wx => ∃ b5 : Nat, s5 = .pointer (some ⟨b5, 0, none⟩) ∧ wx.heap[b5]? = some (.cells #[.pointer (some ⟨x.cb, 0, none⟩), .pointer (some ⟨x.yb, 0, none⟩)] 39) ∧ w1.grownBy wx none)
  case first =>
    go_region_held3 (fun w' => w'.cell? ⟨wb, 0, none⟩ = some (.slice (some ⟨gl, 0, none⟩) m cl) ∧ w'.cell? ⟨b1, 1, none⟩ = some (.int .i64 C) ∧ w'.cell? ⟨gl, i * 2, none⟩ = some (.pointer (some ⟨x.cb, 0, none⟩)) ∧ w'.cell? ⟨gl, i * 2 + 1, none⟩ = some (.pointer (some ⟨x.yb, 0, none⟩))) (go_keep)
      (first | (go_at_call 12; refine (hPk _).mono ?_; rintro e w' ⟨rfl, hw⟩; rw [hw]; clear hw w'))
    all_goals
      go_wp2_with fail
      go_meet
      exact ⟨w1.heap.size, rfl, by rw [heap_drew, heap_alloc_at]; simp, grown_drew (grown_alloc (grown_refl _) _)⟩
  case rest =>
  obtain ⟨b5, rfl, k5, g5⟩ := hcut
  have h2 := h.grown g5
  have k2 := (g5.block _ (lt_of_heap k1) (by simp)).trans k1
  have g2 := grown_trans g1 g5
  have hb2 : base ≤ wc.heap.size := Nat.le_trans hb1 (Nat.le_trans g1.size g5.size)
  have hB2 : Below base w wc := (Below.refl _ w).grown g2 hb1 (by simp)
  clear t0 t1 a1 c0 hbl hPk h h0 g1 g5 g2 k1 hli
  have a0 : wc.cell? ⟨b1, 0, none⟩ = some (.int .i64 k) := cell_blk k2 0
  have a1 : wc.cell? ⟨b1, 1, none⟩ = some (.int .i64 C) := cell_blk k2 1
  have a2 : wc.cell? ⟨b1, 2, none⟩ = some (.int .i64 A) := cell_blk k2 2
  have a3 : wc.cell? ⟨b1, 3, none⟩ = some (.int .i64 B) := cell_blk k2 3
  have a4 : wc.cell? ⟨b1, 4, none⟩ = some (.string ⟨sl.toArray⟩) := cell_blk k2 4
  have t0 : wc.cell? ⟨b5, 0, none⟩ = some (.pointer (some ⟨x.cb, 0, none⟩)) := cell_blk k5 0
  have t1 : wc.cell? ⟨b5, 1, none⟩ = some (.pointer (some ⟨x.yb, 0, none⟩)) := cell_blk k5 1
  have end_write : ∀ {w3 : World}, After x wc w3 → ∃ L', Next L L' 1000 ∧ WAt base wb L' w3 ∧ Below base w w3 := by
    intro w3 hA
    obtain ⟨x', hPx, hx1, hx2, hFx, hOx⟩ := hA
    obtain ⟨hL, hB⟩ := h2.after HX.out hb2 hPx hx1 hx2 hFx hOx
    refine ⟨_, ?_, hL, hB2.trans hB⟩
    exact ⟨rfl, by simp, Nat.le_succ _, Nat.le_succ _, Nat.le_add_right _ _, fun h => h⟩
  have HW := hide (fun k C A B s => writes_any wb x k C A B s wc (h2.pr i x HX.out))
  have HA := hide (asks_d base wb L i x wc h2 HX.out hb2 hlen hair)
  by_cases q1 : k = 1
  · subst q1
    go_wp2_with fail
    refine (HW.out _ _ _ _ _).mono ?_
    rintro e w3 ⟨rfl, hA⟩
    go_wp2_with fail
    go_ret
    exact ⟨rfl, end_write hA⟩
  by_cases q2 : k = 2
  · subst q2
    go_wp2_with fail
    refine (HW.out _ _ _ _ _).mono ?_
    rintro e w3 ⟨rfl, hA⟩
    go_wp2_with fail
    go_ret
    exact ⟨rfl, end_write hA⟩
  by_cases q3 : k = 3
  · subst q3
    go_wp2_with fail
    refine (HA.out 3 (by omega)).mono ?_
    rintro e w3 ⟨rfl, L', hN3, -, hL3, hB3⟩
    go_wp2_with fail
    go_ret
    exact ⟨rfl, L', hN3.mono (by omega), hL3, hB2.trans hB3⟩
  by_cases q4 : k = 4
  · subst q4
    go_wp2_with fail
    refine (HA.out 4 (by omega)).mono ?_
    rintro e w3 ⟨rfl, L', hN3, -, hL3, hB3⟩
    go_wp2_with fail
    go_ret
    exact ⟨rfl, L', hN3.mono (by omega), hL3, hB2.trans hB3⟩
  by_cases q5 : k = 5
  · subst q5
    go_wp2_with fail
    refine (HA.out 5 (by omega)).mono ?_
    rintro e w3 ⟨rfl, L', hN3, -, hL3, hB3⟩
    go_wp2_with fail
    go_ret
    exact ⟨rfl, L', hN3.mono (by omega), hL3, hB2.trans hB3⟩
  by_cases q6 : k = 6
  · subst q6
    go_wp2_with fail
    refine (HA.out 6 (by omega)).mono ?_
    rintro e w3 ⟨rfl, L', hN3, -, hL3, hB3⟩
    go_wp2_with fail
    go_ret
    exact ⟨rfl, L', hN3.mono (by omega), hL3, hB2.trans hB3⟩
  by_cases q7 : k = 7
  · subst q7
    go_wp2_with fail
    refine (HA.out 7 (by omega)).mono ?_
    rintro e w3 ⟨rfl, L', hN3, -, hL3, hB3⟩
    go_wp2_with fail
    go_ret
    exact ⟨rfl, L', hN3.mono (by omega), hL3, hB2.trans hB3⟩
  have end_same : ∀ {w3 : World}, Below wc.heap.size wc w3 → ∃ L', Next L L' 1000 ∧ WAt base wb L' w3 ∧ Below base w w3 := by
    intro w3 hB
    exact ⟨L, Next.refl L 1000, h2.below hB, hB2.trans (hB.mono hb2)⟩
  by_cases q8 : k = 8
  · subst q8
    have HH := hide (handles_any base wb L i x wc h2 HX.out hb2 hlen2 hair sl)
    go_wp2_with fail
    refine HH.out.mono ?_
    rintro e w3 ⟨rfl, L', hN3, hL3, hB3, -⟩
    go_wp2_with fail
    go_ret
    exact ⟨rfl, L', hN3, hL3, hB2.trans hB3⟩
  by_cases q9 : k = 9
  · subst q9
    have HH := hide (flies_any base wb L i x wc h2 HX.out hb2 hlen2 hair hne 9 C A B ⟨sl.toArray⟩ (.inl rfl) hA1 hA2 hB1 hB2')
    go_wp2_with fail
    refine HH.out.mono ?_
    rintro e w3 ⟨rfl, L', hN3, hL3, hB3⟩
    go_wp2_with fail
    go_ret
    exact ⟨rfl, L', hN3, hL3, hB2.trans hB3⟩
  by_cases q10 : k = 10
  · subst q10
    have HH := hide (flies_any base wb L i x wc h2 HX.out hb2 hlen2 hair hne 10 C A B ⟨sl.toArray⟩ (.inr rfl) hA1 hA2 hB1 hB2')
    go_wp2_with fail
    refine HH.out.mono ?_
    rintro e w3 ⟨rfl, L', hN3, hL3, hB3⟩
    go_wp2_with fail
    go_ret
    exact ⟨rfl, L', hN3, hL3, hB2.trans hB3⟩
  by_cases q12 : k = 12
  · subst q12
    have HD := hide (digest_d base wb L i x wc h2 HX.out hb2 hlen2 hair (by omega) (by omega) 12 C A B ⟨sl.toArray⟩ hC1 hC2 hA1 hA2 hB1 hB2')
    go_wp2_with fail
    refine HD.out.mono ?_
    rintro e w3 ⟨rfl, L', hN3, hL3, hB3⟩
    go_wp2_with fail
    go_ret
    exact ⟨rfl, L', hN3, hL3, hB2.trans hB3⟩
  by_cases q11 : k = 11
  · subst q11
    have HB := hide (begins_out wb A B wc)
    go_wp2_with fail
    refine HB.out.mono ?_
    rintro e w3 ⟨rfl, hB3⟩
    go_wp2_with fail
    go_ret
    exact ⟨rfl, end_same hB3⟩
  · have e1 : (k == 1) = false := by simp; omega
    have e2 : (k == 2) = false := by simp; omega
    have e3 : (k == 3) = false := by simp; omega
    have e4 : (k == 4) = false := by simp; omega
    have e5 : (k == 5) = false := by simp; omega
    have e6 : (k == 6) = false := by simp; omega
    have e7 : (k == 7) = false := by simp; omega
    have e8 : (k == 8) = false := by simp; omega
    have e9 : (k == 9) = false := by simp; omega
    have e10 : (k == 10) = false := by simp; omega
    have e11 : (k == 11) = false := by simp; omega
    have e12 : (k == 12) = false := by simp; omega
    clear q1 q2 q3 q4 q5 q6 q7 q8 q9 q10 q11 q12
    go_wp2_with fail
    go_ret
    exact ⟨rfl, end_same (Below.refl _ _)⟩

end Go.Proofs.YtachmkhbbbmioaaGreat

namespace Go.Proofs.YtachmkhbbbmioaaGreat
open Go.RowKit Go.Shelf

/-- An act of the script, as it lies in the caller's memory. -/
def ActIn (w : World) (b off i : Nat) (k C A B : Int) (s : ByteArray) : Prop :=
  w.cell? ⟨b, off + i * 5, none⟩ = some (.int .i64 k) ∧ w.cell? ⟨b, off + i * 5 + 1, none⟩ = some (.int .i64 C) ∧ w.cell? ⟨b, off + i * 5 + 2, none⟩ = some (.int .i64 A) ∧ w.cell? ⟨b, off + i * 5 + 3, none⟩ = some (.int .i64 B) ∧ w.cell? ⟨b, off + i * 5 + 4, none⟩ = some (.string s) ∧
    (-9223372036854775808 ≤ C ∧ C ≤ 9223372036854775807) ∧ (-9223372036854775808 ≤ A ∧ A ≤ 9223372036854775807) ∧ (-9223372036854775808 ≤ B ∧ B ≤ 9223372036854775807)

def LS.zero : LS := ⟨.slice none 0 0, .slice none 0 0, .slice none 0 0, .slice none 0 0, [], [], [], []⟩

theorem WAt.init (w : World) : WAt w.heap.size w.heap.size LS.zero (w.alloc (.cells #[.slice none 0 0, .slice none 0 0, .slice none 0 0, .slice none 0 0] 33)) := by
  refine ⟨by rw [heap_alloc_at]; simp [LS.zero], row_nil _ _ _, row_nil _ _ _, row_nil _ _ _, row_nil _ _ _, by simp [LS.zero], by simp [LS.zero], by simp [LS.zero], fun _ => 0, ?_, by simp [LS.zero], by simp [LS.zero], by simp [LS.zero]⟩
  intro k hk
  simp only [LS.own, LS.zero, Value.ownBlock, Option.toList_none, List.append_nil, List.mem_cons, List.not_mem_nil, or_false] at hk
  subst hk
  exact ⟨rfl, Nat.le_refl _⟩

/-- How great the world has become behind so many acts. -/
structure Fits (L : LS) (i : Nat) : Prop where
  irs : L.irs.length ≤ i
  trs : L.trs.length ≤ i
  air : L.air.length ≤ 1000 * i

theorem Fits.next {L L' : LS} {i : Nat} (h : Fits L i) (hn : Next L L' 1000) : Fits L' (i + 1) :=
  ⟨by have := h.irs; have := hn.irs; omega, by have := h.trs; have := hn.trs; omega, by have := h.air; have := hn.air; omega⟩

set_option maxRecDepth 100000 in
set_option maxHeartbeats 8000000 in
theorem plays_d (c : Int) (hc1 : -9223372036854775808 ≤ c) (hc2 : c ≤ 9223372036854775807) (a : Option Addr) (len cap : Nat) (hlen : len ≤ 1048576) (w : World)
    (hs : ∀ i, i < len → ∃ b off k C A B s, a = some ⟨b, off, none⟩ ∧ b < w.heap.size ∧ ActIn w b off i k C A B s) :
    Calls Tryz.prog 11 #[.int .i64 c, .slice a len cap, .int .i64 7, .bool false] w fun e w' => e = .returned (.bool true) ∧ Below w.heap.size w w' := by
  have hp8 := pk_lt c (n := 8) (by omega)
  have hPk := fun w => pickL c 8 (by omega) (by omega) hc1 hc2 w
  generalize hq : pk c 8 = q at hp8 hPk
  clear hq
  have hL0 := WAt.init w
  have hB0 : Below w.heap.size w (w.alloc (.cells #[.slice none 0 0, .slice none 0 0, .slice none 0 0, .slice none 0 0] 33)) := (Below.refl _ w).grown (grown_alloc (grown_refl _) _) (Nat.le_refl _) (by simp)
  go_enter Tryz.func11, Tryz.ntmps11
  go_upto_region 3 with (go_at_call 12; refine (hPk _).mono ?_; rintro e w' ⟨rfl, hw⟩; rw [hw]; clear hw w')
  obtain ⟨n, hn⟩ : ∃ n : Nat, 1 + (q : Int) = (n : Int) := ⟨1 + q, by omega⟩
  rw [hn]
  generalize (w.alloc (.cells #[.slice none 0 0, .slice none 0 0, .slice none 0 0, .slice none 0 0] 33)) = w1 at hL0 hB0 ⊢
  have hn8 : 1 ≤ n ∧ n ≤ 8 := by omega
  clear hn hPk hp8
  obtain ⟨base, hbase⟩ : ∃ base, w.heap.size = base := ⟨_, rfl⟩
  obtain ⟨wb, hwb⟩ : ∃ wb, w.heap.size = wb := ⟨_, rfl⟩
  have hL1 : WAt base wb LS.zero w1 := by subst hbase hwb; exact hL0
  rw [hbase] at hB0
  rw [hwb]
  go_wp2_with fail
  go_loopg [11] n (fun gk s11 wr => ∃ (i : Nat) (L : LS), s11 = .int .i64 i ∧ 1 ≤ i ∧ i ≤ n + 1 ∧ gk = n + 1 - i ∧ L.prs.length + 1 = i ∧ Fits L 0 ∧ WAt base wb L wr ∧ Below base w wr)
  case atStart => exact ⟨1, LS.zero, rfl, by omega, by omega, by omega, rfl, ⟨by simp [LS.zero], by simp [LS.zero], by simp [LS.zero]⟩, hL1, hB0⟩
  case round =>
    clear hL1 hB0
    obtain ⟨i, L, rfl, hi1, hin, hgk, hpl, hft, hL, hB⟩ := hrel
    have hbw : base ≤ wr.heap.size := by rw [← hbase]; exact hB.size
    by_cases hlt : i ≤ n
    · have hli : (i : Int) ≤ (n : Int) := by omega
      have hC := hide (begins_d base wb n i L wr hL hbw (by omega) (by omega) (by omega) (by omega))
      go_wp2_with fail
      refine hC.out.mono ?_
      rintro e w2 ⟨rfl, vl', x, hL2, hB2⟩
      go_wp2_with fail
      go_roundg (n + 1 - (i + 1))
      case measure => omega
      case rel => exact ⟨i + 1, { L with vl := vl', prs := L.prs ++ [x] }, by go_num, by omega, by omega, rfl, by simp; omega, ⟨hft.irs, hft.trs, hft.air⟩, hL2, hB.trans hB2⟩
    · have hpn : L.prs.length = n := by omega
      have hC : Hid (Calls Tryz.prog 13 #[.pointer (some ⟨wb, 0, none⟩), .int .i64 2, .int .i64 1, .bool true] wr fun e w' => e = .returned (.bool true) ∧ ∃ vl' x, WAt base wb { L with vl := vl', prs := L.prs ++ [x] } w' ∧ Below base wr w') := hide (begins_d base wb 2 1 L wr hL hbw (by omega) (by omega) (by omega) (by omega))
      go_wp2_with fail
      refine hC.out.mono ?_
      rintro e w2 ⟨rfl, vl', x, hL2, hB2⟩
      have hB3 := hB.trans hB2
      obtain ⟨L2, hL2e⟩ : ∃ L2 : LS, { L with vl := vl', prs := L.prs ++ [x] } = L2 := ⟨_, rfl⟩
      have hP3 : L2.prs.length = n + 1 := by rw [← hL2e]; simp; omega
      have hft2 : Fits L2 0 := by rw [← hL2e]; exact ⟨hft.irs, hft.trs, hft.air⟩
      rw [hL2e] at hL2
      clear hB2 hB hL hC hpl hgk hin hi1 hlt hpn hbw hL2e hft
      obtain ⟨m, hm⟩ : ∃ m, n + 1 = m := ⟨_, rfl⟩
      rw [hm] at hP3
      obtain ⟨x0, hx0⟩ : ∃ x0, L2.prs[0]? = some x0 := ⟨L2.prs[0], by simp⟩
      obtain ⟨gl, cl, cur, hvl, -, -, -⟩ := hL2.l.cell (i := 0) (x := twoCells x0) (by simp [hx0])
      rw [List.length_map, hP3] at hvl
      clear hx0
      have c0 : w2.cell? ⟨wb, 0, none⟩ = some (.slice (some ⟨gl, 0, none⟩) m cl) := by rw [← hvl]; exact cell_blk hL2.cp 0
      have hne : ((m : Int) != (n : Int) + 1) = false := by simp; omega
      have HV2 := hide hvl
      clear hvl
      go_wp2_with fail
      clear c0 hne
      have HS := hide hs
      clear hs
      go_loopg [13, 14] len (fun gk s13 s14 wr => ∃ (i : Nat) (L : LS), s13 = .bool true ∧ s14 = .int .i64 i ∧ i ≤ len ∧ gk = len - i ∧ L.prs.length = m ∧ Hid (L.vl = .slice (some ⟨gl, 0, none⟩) m cl) ∧ Fits L i ∧ WAt base wb L wr ∧ Below base w wr)
      case atStart => exact ⟨0, L2, rfl, rfl, by omega, rfl, hP3, HV2, hft2, hL2, hB3⟩
      case round =>
        clear hL2 hB3 hP3 HV2 hft2
        obtain ⟨i, L, rfl, rfl, hil, hgk, hpl, HV, hft, hL, hB⟩ := hrel
        have hbr : base ≤ wr.heap.size := by rw [← hbase]; exact hB.size
        have f1 := hft.irs
        have f2 := hft.trs
        have f3 := hft.air
        by_cases hlt : i < len
        · have hli : (i : Int) < (len : Int) := by omega
          obtain ⟨b, off, k, C, A, B, s, hae, hbw, e0, e1, e2, e3, e4, hCb, hAb, hBb⟩ := HS.out i hlt
          have kc : ∀ (o : Nat) (v : Value), w.cell? ⟨b, o, none⟩ = some v → wr.cell? ⟨b, o, none⟩ = some v := fun o v hv => (hB.cell (p := ⟨b, o, none⟩) (by rw [← hbase]; exact hbw)).trans hv
          have f0 := kc _ _ e0
          have f1' := kc _ _ e1
          have f2' := kc _ _ e2
          have f3' := kc _ _ e3
          have f4 := kc _ _ e4
          clear e0 e1 e2 e3 e4 kc HS
          subst hae
          by_cases hskip : 7 < k ∧ k ≠ 11 ∧ k ≠ 12
          · obtain ⟨hk7, hk11, hk12⟩ := hskip
            have n11 : (k != 11) = true := by simp [hk11]
            have n12 : (k != 12) = true := by simp [hk12]
            go_wp2_with fail
            go_roundg (len - (i + 1))
            case measure => omega
            case rel => exact ⟨i + 1, L, rfl, by go_num, by omega, rfl, hpl, HV, ⟨by omega, by omega, by omega⟩, hL, hB⟩
          · have hk : k ≤ 7 ∨ k = 11 ∨ k = 12 := by omega
            have HA := hide (act_d base wb L k C A B s wr hL hbr (by omega) (by omega) (by omega) (by omega) (by omega) hCb.1 hCb.2 hAb.1 hAb.2 hBb.1 hBb.2 hk)
            clear hskip
            rcases hk with hk7 | hk11 | hk12
            · have n8 : (k == 8) = false := by simp; omega
              go_upto_region 18 with fail
              go_wp2_with fail
              refine HA.out.mono ?_
              rintro e w3 ⟨rfl, L', hN, hL3, hB3⟩
              have hft3 := hft.next hN
              have HLk := hide (looks_d base wb L' w3 hL3 (by have := hft3.irs; omega) (by have := hft3.trs; omega))
              go_wp2_with fail
              refine HLk.out.mono ?_
              rintro e w4 ⟨rfl, hB4⟩
              go_wp2_with fail
              go_roundg (len - (i + 1))
              case measure => omega
              case rel => exact ⟨i + 1, L', rfl, by go_num, by omega, rfl, hN.prs.trans hpl, hide (hN.vl.trans HV.out), hft3, hL3.below hB4, (hB.trans hB3).trans (hB4.mono (Nat.le_trans hbr hB3.size))⟩
            · subst hk11
              go_upto_region 18 with fail
              go_wp2_with fail
              refine HA.out.mono ?_
              rintro e w3 ⟨rfl, L', hN, hL3, hB3⟩
              have hft3 := hft.next hN
              have HLk := hide (looks_d base wb L' w3 hL3 (by have := hft3.irs; omega) (by have := hft3.trs; omega))
              go_wp2_with fail
              refine HLk.out.mono ?_
              rintro e w4 ⟨rfl, hB4⟩
              go_wp2_with fail
              go_roundg (len - (i + 1))
              case measure => omega
              case rel => exact ⟨i + 1, L', rfl, by go_num, by omega, rfl, hN.prs.trans hpl, hide (hN.vl.trans HV.out), hft3, hL3.below hB4, (hB.trans hB3).trans (hB4.mono (Nat.le_trans hbr hB3.size))⟩
            · subst hk12
              go_upto_region 18 with fail
              go_wp2_with fail
              refine HA.out.mono ?_
              rintro e w3 ⟨rfl, L', hN, hL3, hB3⟩
              have hft3 := hft.next hN
              have HLk := hide (looks_d base wb L' w3 hL3 (by have := hft3.irs; omega) (by have := hft3.trs; omega))
              go_wp2_with fail
              refine HLk.out.mono ?_
              rintro e w4 ⟨rfl, hB4⟩
              go_wp2_with fail
              go_roundg (len - (i + 1))
              case measure => omega
              case rel => exact ⟨i + 1, L', rfl, by go_num, by omega, rfl, hN.prs.trans hpl, hide (hN.vl.trans HV.out), hft3, hL3.below hB4, (hB.trans hB3).trans (hB4.mono (Nat.le_trans hbr hB3.size))⟩
        · obtain rfl : i = len := by omega
          clear HS
          go_wp2_with fail
          go_loopg [13, 17] m (fun gk s13 s17 wr => ∃ (j : Nat) (L : LS), s13 = .bool true ∧ s17 = .int .i64 j ∧ j ≤ m ∧ gk = m - j ∧ L.prs.length = m ∧ Hid (L.vl = .slice (some ⟨gl, 0, none⟩) m cl) ∧ Fits L (i + 5 * j) ∧ WAt base wb L wr ∧ Below base w wr)
          case atStart => exact ⟨0, L, rfl, rfl, by omega, rfl, hpl, HV, hft, hL, hB⟩
          case round =>
            clear hL hB hbr hgk hft f1 f2 f3 hpl HV
            obtain ⟨j, L, rfl, rfl, hjm, hgk3, hpl, HV, hft, hL, hB⟩ := hrel
            have hbr : base ≤ wr.heap.size := by rw [← hbase]; exact hB.size
            have f1 := hft.irs
            have f2 := hft.trs
            have f3 := hft.air
            have c0 : wr.cell? ⟨wb, 0, none⟩ = some (.slice (some ⟨gl, 0, none⟩) m cl) := by rw [← HV.out]; exact cell_blk hL.cp 0
            by_cases hlt : j < m
            · have hli : (j : Int) < (m : Int) := by omega
              go_wp2_with fail
              clear c0
              go_loopg [13, 18] 5 (fun gk s13 s18 wr => ∃ (k : Nat) (L : LS), s13 = .bool true ∧ s18 = .int .i64 k ∧ 3 ≤ k ∧ k ≤ 8 ∧ gk = 8 - k ∧ L.prs.length = m ∧ Hid (L.vl = .slice (some ⟨gl, 0, none⟩) m cl) ∧ Fits L (i + 5 * j + (k - 3)) ∧ WAt base wb L wr ∧ Below base w wr)
              case atStart => exact ⟨3, L, rfl, rfl, by omega, by omega, rfl, hpl, HV, hft, hL, hB⟩
              case round =>
                clear hL hB hbr hft f1 f2 f3 hpl HV
                obtain ⟨k, L, rfl, rfl, hk3, hk8, hgk, hpl, HV, hft, hL, hB⟩ := hrel
                have hbr : base ≤ wr.heap.size := by rw [← hbase]; exact hB.size
                have f1 := hft.irs
                have f2 := hft.trs
                have f3 := hft.air
                by_cases hk7 : k ≤ 7
                · have hk7i : (k : Int) ≤ 7 := by omega
                  obtain ⟨x', hx⟩ : ∃ x, L.prs[j]? = some x := ⟨L.prs[j], by simp [hpl, hlt]⟩
                  have c0 : wr.cell? ⟨wb, 0, none⟩ = some (.slice (some ⟨gl, 0, none⟩) m cl) := by rw [← HV.out]; exact cell_blk hL.cp 0
                  obtain ⟨gl', cl', cur, hvl, -, hbl, hcell⟩ := hL.l.cell (i := j) (x := twoCells x') (by simp [hx])
                  rw [List.length_map, hpl, HV.out] at hvl
                  cases hvl
                  have t0 : wr.cell? ⟨gl, j * 2, none⟩ = some (.pointer (some ⟨x'.cb, 0, none⟩)) := (cell_blk hbl _).trans (hcell 0 _ rfl)
                  have t1 : wr.cell? ⟨gl, j * 2 + 1, none⟩ = some (.pointer (some ⟨x'.yb, 0, none⟩)) := (cell_blk hbl _).trans (hcell 1 _ rfl)
                  have HA := hide (asks_d base wb L j x' wr hL hx hbr (by omega) (by omega) k (by omega))
                  clear hcell hx hbl
                  go_wp2_with fail
                  refine HA.out.mono ?_
                  rintro e w3 ⟨rfl, L', hN, hpr, hL3, hB3⟩
                  have hft3 := hft.next (hN.mono (by omega))
                  have e8 : i + 5 * j + (k - 3) + 1 = i + 5 * j + (k + 1 - 3) := by omega
                  rw [e8] at hft3
                  go_wp2_with fail
                  go_roundg (8 - (k + 1))
                  case measure => omega
                  case rel => exact ⟨k + 1, L', rfl, by go_num, by omega, by omega, rfl, hN.prs.trans hpl, hide (hN.vl.trans HV.out), hft3, hL3, hB.trans hB3⟩
                · have hk7i : ¬ (k : Int) ≤ 7 := by omega
                  have hkd : decide ((k : Int) ≤ 7) = false := by simp; omega
                  obtain rfl : k = 8 := by omega
                  go_wp2_with fail
                  go_roundg (m - (j + 1))
                  case measure => omega
                  case rel => exact ⟨j + 1, L, rfl, by go_num, by omega, rfl, hpl, HV, by have e8 : i + 5 * (j + 1) = i + 5 * j + (8 - 3) := by { omega }; rw [e8]; exact hft, hL, hB⟩
            · have HLk := hide (looks_d base wb L wr hL (by omega) (by omega))
              go_wp2_with fail
              refine HLk.out.mono ?_
              rintro e w4 ⟨rfl, hB4⟩
              go_wp2_with fail
              go_ret
              exact ⟨rfl, by rw [hbase]; exact hB.trans (hB4.mono hbr)⟩

end Go.Proofs.YtachmkhbbbmioaaGreat

namespace Go.Proofs.YtachmkhbbbmioaaGreat
open Go.RowKit Go.Shelf

structure FitE (L : LS) (i : Nat) : Prop where
  irs : L.irs.length ≤ i
  trs : L.trs.length ≤ i
  air : L.air.length ≤ 1000 * i
  ne : ∀ s ∈ L.air, SOk s

theorem FitE.next {L L' : LS} {i : Nat} (h : FitE L i) (hn : Next L L' 1000) : FitE L' (i + 1) :=
  ⟨by have := h.irs; have := hn.irs; omega, by have := h.trs; have := hn.trs; omega, by have := h.air; have := hn.air; omega, hn.ne h.ne⟩

set_option maxRecDepth 100000 in
set_option maxHeartbeats 8000000 in
theorem plays_e (wild : Bool) (c : Int) (hc1 : -9223372036854775808 ≤ c) (hc2 : c ≤ 9223372036854775807) (a : Option Addr) (len cap : Nat) (hlen : len ≤ 1048576) (w : World)
    (hs : ∀ i, i < len → ∃ b off k C A B s, a = some ⟨b, off, none⟩ ∧ b < w.heap.size ∧ ActIn w b off i k C A B s) :
    Calls Tryz.prog 11 #[.int .i64 c, .slice a len cap, .int .i64 10, .bool wild] w fun e w' => e = .returned (.bool true) ∧ Below w.heap.size w w' := by
  have hp8 := pk_lt c (n := 8) (by omega)
  have hPk := fun w => pickL c 8 (by omega) (by omega) hc1 hc2 w
  generalize hq : pk c 8 = q at hp8 hPk
  clear hq
  have hL0 := WAt.init w
  have hB0 : Below w.heap.size w (w.alloc (.cells #[.slice none 0 0, .slice none 0 0, .slice none 0 0, .slice none 0 0] 33)) := (Below.refl _ w).grown (grown_alloc (grown_refl _) _) (Nat.le_refl _) (by simp)
  go_enter Tryz.func11, Tryz.ntmps11
  go_upto_region 3 with (go_at_call 12; refine (hPk _).mono ?_; rintro e w' ⟨rfl, hw⟩; rw [hw]; clear hw w')
  obtain ⟨n, hn⟩ : ∃ n : Nat, 1 + (q : Int) = (n : Int) := ⟨1 + q, by omega⟩
  rw [hn]
  generalize (w.alloc (.cells #[.slice none 0 0, .slice none 0 0, .slice none 0 0, .slice none 0 0] 33)) = w1 at hL0 hB0 ⊢
  have hn8 : 1 ≤ n ∧ n ≤ 8 := by omega
  clear hn hPk hp8
  obtain ⟨base, hbase⟩ : ∃ base, w.heap.size = base := ⟨_, rfl⟩
  obtain ⟨wb, hwb⟩ : ∃ wb, w.heap.size = wb := ⟨_, rfl⟩
  have hL1 : WAt base wb LS.zero w1 := by subst hbase hwb; exact hL0
  rw [hbase] at hB0
  rw [hwb]
  go_wp2_with fail
  go_loopg [11] n (fun gk s11 wr => ∃ (i : Nat) (L : LS), s11 = .int .i64 i ∧ 1 ≤ i ∧ i ≤ n + 1 ∧ gk = n + 1 - i ∧ L.prs.length + 1 = i ∧ FitE L 0 ∧ WAt base wb L wr ∧ Below base w wr)
  case atStart => exact ⟨1, LS.zero, rfl, by omega, by omega, by omega, rfl, ⟨by simp [LS.zero], by simp [LS.zero], by simp [LS.zero], by simp [LS.zero]⟩, hL1, hB0⟩
  case round =>
    clear hL1 hB0
    obtain ⟨i, L, rfl, hi1, hin, hgk, hpl, hft, hL, hB⟩ := hrel
    have hbw : base ≤ wr.heap.size := by rw [← hbase]; exact hB.size
    by_cases hlt : i ≤ n
    · have hli : (i : Int) ≤ (n : Int) := by omega
      have hC := hide (begins_d base wb n i L wr hL hbw (by omega) (by omega) (by omega) (by omega))
      go_wp2_with fail
      refine hC.out.mono ?_
      rintro e w2 ⟨rfl, vl', x, hL2, hB2⟩
      go_wp2_with fail
      go_roundg (n + 1 - (i + 1))
      case measure => omega
      case rel => exact ⟨i + 1, { L with vl := vl', prs := L.prs ++ [x] }, by go_num, by omega, by omega, rfl, by simp; omega, ⟨hft.irs, hft.trs, hft.air, hft.ne⟩, hL2, hB.trans hB2⟩
    · have hpn : L.prs.length = n := by omega
      have hC : Hid (Calls Tryz.prog 13 #[.pointer (some ⟨wb, 0, none⟩), .int .i64 2, .int .i64 1, .bool true] wr fun e w' => e = .returned (.bool true) ∧ ∃ vl' x, WAt base wb { L with vl := vl', prs := L.prs ++ [x] } w' ∧ Below base wr w') := hide (begins_d base wb 2 1 L wr hL hbw (by omega) (by omega) (by omega) (by omega))
      go_wp2_with fail
      refine hC.out.mono ?_
      rintro e w2 ⟨rfl, vl', x, hL2, hB2⟩
      have hB3 := hB.trans hB2
      obtain ⟨L2, hL2e⟩ : ∃ L2 : LS, { L with vl := vl', prs := L.prs ++ [x] } = L2 := ⟨_, rfl⟩
      have hP3 : L2.prs.length = n + 1 := by rw [← hL2e]; simp; omega
      have hft2 : FitE L2 0 := by rw [← hL2e]; exact ⟨hft.irs, hft.trs, hft.air, hft.ne⟩
      rw [hL2e] at hL2
      clear hB2 hB hL hC hpl hgk hin hi1 hlt hpn hbw hL2e hft
      obtain ⟨m, hm⟩ : ∃ m, n + 1 = m := ⟨_, rfl⟩
      rw [hm] at hP3
      obtain ⟨x0, hx0⟩ : ∃ x0, L2.prs[0]? = some x0 := ⟨L2.prs[0], by simp⟩
      obtain ⟨gl, cl, cur, hvl, -, -, -⟩ := hL2.l.cell (i := 0) (x := twoCells x0) (by simp [hx0])
      rw [List.length_map, hP3] at hvl
      clear hx0
      have c0 : w2.cell? ⟨wb, 0, none⟩ = some (.slice (some ⟨gl, 0, none⟩) m cl) := by rw [← hvl]; exact cell_blk hL2.cp 0
      have hne : ((m : Int) != (n : Int) + 1) = false := by simp; omega
      have HV2 := hide hvl
      clear hvl
      go_wp2_with fail
      clear c0 hne
      have HS := hide hs
      clear hs
      go_loopg [13, 14] len (fun gk s13 s14 wr => ∃ (i : Nat) (L : LS), s13 = .bool true ∧ s14 = .int .i64 i ∧ i ≤ len ∧ gk = len - i ∧ L.prs.length = m ∧ Hid (L.vl = .slice (some ⟨gl, 0, none⟩) m cl) ∧ FitE L i ∧ WAt base wb L wr ∧ Below base w wr)
      case atStart => exact ⟨0, L2, rfl, rfl, by omega, rfl, hP3, HV2, hft2, hL2, hB3⟩
      case round =>
        clear hL2 hB3 hP3 HV2 hft2
        obtain ⟨i, L, rfl, rfl, hil, hgk, hpl, HV, hft, hL, hB⟩ := hrel
        have hbr : base ≤ wr.heap.size := by rw [← hbase]; exact hB.size
        have f1 := hft.irs
        have f2 := hft.trs
        have f3 := hft.air
        by_cases hlt : i < len
        · have hli : (i : Int) < (len : Int) := by omega
          obtain ⟨b, off, k, C, A, B, s, hae, hbw, e0, e1, e2, e3, e4, hCb, hAb, hBb⟩ := HS.out i hlt
          have kc : ∀ (o : Nat) (v : Value), w.cell? ⟨b, o, none⟩ = some v → wr.cell? ⟨b, o, none⟩ = some v := fun o v hv => (hB.cell (p := ⟨b, o, none⟩) (by rw [← hbase]; exact hbw)).trans hv
          have f0 := kc _ _ e0
          have f1' := kc _ _ e1
          have f2' := kc _ _ e2
          have f3' := kc _ _ e3
          have f4 := kc _ _ e4
          clear e0 e1 e2 e3 e4 kc HS
          subst hae
          by_cases hskip : 10 < k ∧ k ≠ 11 ∧ k ≠ 12
          · obtain ⟨hk7, hk11, hk12⟩ := hskip
            have n11 : (k != 11) = true := by simp [hk11]
            have n12 : (k != 12) = true := by simp [hk12]
            go_wp2_with fail
            go_roundg (len - (i + 1))
            case measure => omega
            case rel => exact ⟨i + 1, L, rfl, by go_num, by omega, rfl, hpl, HV, ⟨by omega, by omega, by omega, hft.ne⟩, hL, hB⟩
          · have HA := hide (act_any base wb L k C A B s wr hL hbr (by omega) (by omega) (by omega) hft.ne (by omega) (by omega) hCb.1 hCb.2 hAb.1 hAb.2 hBb.1 hBb.2)
            have hk : (k ≤ 10 ∧ k ≠ 8) ∨ k = 8 ∨ k = 11 ∨ k = 12 := by omega
            clear hskip
            rcases hk with ⟨hk7, hk8⟩ | hk8 | hk11 | hk12
            · have n8 : (k == 8) = false := by simp; omega
              go_upto_region 18 with fail
              go_wp2_with fail
              refine HA.out.mono ?_
              rintro e w3 ⟨rfl, L', hN, hL3, hB3⟩
              have hft3 := hft.next hN
              have HLk := hide (looks_d base wb L' w3 hL3 (by have := hft3.irs; omega) (by have := hft3.trs; omega))
              go_wp2_with fail
              refine HLk.out.mono ?_
              rintro e w4 ⟨rfl, hB4⟩
              go_wp2_with fail
              go_roundg (len - (i + 1))
              case measure => omega
              case rel => exact ⟨i + 1, L', rfl, by go_num, by omega, rfl, hN.prs.trans hpl, hide (hN.vl.trans HV.out), hft3, hL3.below hB4, (hB.trans hB3).trans (hB4.mono (Nat.le_trans hbr hB3.size))⟩
            · subst hk8
              cases wild with
              | true =>
                go_upto_region 18 with fail
                go_wp2_with fail
                refine HA.out.mono ?_
                rintro e w3 ⟨rfl, L', hN, hL3, hB3⟩
                have hft3 := hft.next hN
                have HLk := hide (looks_d base wb L' w3 hL3 (by have := hft3.irs; omega) (by have := hft3.trs; omega))
                go_wp2_with fail
                refine HLk.out.mono ?_
                rintro e w4 ⟨rfl, hB4⟩
                go_wp2_with fail
                go_roundg (len - (i + 1))
                case measure => omega
                case rel => exact ⟨i + 1, L', rfl, by go_num, by omega, rfl, hN.prs.trans hpl, hide (hN.vl.trans HV.out), hft3, hL3.below hB4, (hB.trans hB3).trans (hB4.mono (Nat.le_trans hbr hB3.size))⟩
              | false =>
                go_wp2_with fail
                go_roundg (len - (i + 1))
                case measure => omega
                case rel => exact ⟨i + 1, L, rfl, by go_num, by omega, rfl, hpl, HV, ⟨by omega, by omega, by omega, hft.ne⟩, hL, hB⟩
            · subst hk11
              go_upto_region 18 with fail
              go_wp2_with fail
              refine HA.out.mono ?_
              rintro e w3 ⟨rfl, L', hN, hL3, hB3⟩
              have hft3 := hft.next hN
              have HLk := hide (looks_d base wb L' w3 hL3 (by have := hft3.irs; omega) (by have := hft3.trs; omega))
              go_wp2_with fail
              refine HLk.out.mono ?_
              rintro e w4 ⟨rfl, hB4⟩
              go_wp2_with fail
              go_roundg (len - (i + 1))
              case measure => omega
              case rel => exact ⟨i + 1, L', rfl, by go_num, by omega, rfl, hN.prs.trans hpl, hide (hN.vl.trans HV.out), hft3, hL3.below hB4, (hB.trans hB3).trans (hB4.mono (Nat.le_trans hbr hB3.size))⟩
            · subst hk12
              go_upto_region 18 with fail
              go_wp2_with fail
              refine HA.out.mono ?_
              rintro e w3 ⟨rfl, L', hN, hL3, hB3⟩
              have hft3 := hft.next hN
              have HLk := hide (looks_d base wb L' w3 hL3 (by have := hft3.irs; omega) (by have := hft3.trs; omega))
              go_wp2_with fail
              refine HLk.out.mono ?_
              rintro e w4 ⟨rfl, hB4⟩
              go_wp2_with fail
              go_roundg (len - (i + 1))
              case measure => omega
              case rel => exact ⟨i + 1, L', rfl, by go_num, by omega, rfl, hN.prs.trans hpl, hide (hN.vl.trans HV.out), hft3, hL3.below hB4, (hB.trans hB3).trans (hB4.mono (Nat.le_trans hbr hB3.size))⟩
        · obtain rfl : i = len := by omega
          clear HS
          go_wp2_with fail
          go_loopg [13, 17] m (fun gk s13 s17 wr => ∃ (j : Nat) (L : LS), s13 = .bool true ∧ s17 = .int .i64 j ∧ j ≤ m ∧ gk = m - j ∧ L.prs.length = m ∧ Hid (L.vl = .slice (some ⟨gl, 0, none⟩) m cl) ∧ FitE L (i + 5 * j) ∧ WAt base wb L wr ∧ Below base w wr)
          case atStart => exact ⟨0, L, rfl, rfl, by omega, rfl, hpl, HV, hft, hL, hB⟩
          case round =>
            clear hL hB hbr hgk hft f1 f2 f3 hpl HV
            obtain ⟨j, L, rfl, rfl, hjm, hgk3, hpl, HV, hft, hL, hB⟩ := hrel
            have hbr : base ≤ wr.heap.size := by rw [← hbase]; exact hB.size
            have f1 := hft.irs
            have f2 := hft.trs
            have f3 := hft.air
            have c0 : wr.cell? ⟨wb, 0, none⟩ = some (.slice (some ⟨gl, 0, none⟩) m cl) := by rw [← HV.out]; exact cell_blk hL.cp 0
            by_cases hlt : j < m
            · have hli : (j : Int) < (m : Int) := by omega
              go_wp2_with fail
              clear c0
              go_loopg [13, 18] 5 (fun gk s13 s18 wr => ∃ (k : Nat) (L : LS), s13 = .bool true ∧ s18 = .int .i64 k ∧ 3 ≤ k ∧ k ≤ 8 ∧ gk = 8 - k ∧ L.prs.length = m ∧ Hid (L.vl = .slice (some ⟨gl, 0, none⟩) m cl) ∧ FitE L (i + 5 * j + (k - 3)) ∧ WAt base wb L wr ∧ Below base w wr)
              case atStart => exact ⟨3, L, rfl, rfl, by omega, by omega, rfl, hpl, HV, hft, hL, hB⟩
              case round =>
                clear hL hB hbr hft f1 f2 f3 hpl HV
                obtain ⟨k, L, rfl, rfl, hk3, hk8, hgk, hpl, HV, hft, hL, hB⟩ := hrel
                have hbr : base ≤ wr.heap.size := by rw [← hbase]; exact hB.size
                have f1 := hft.irs
                have f2 := hft.trs
                have f3 := hft.air
                by_cases hk7 : k ≤ 7
                · have hk7i : (k : Int) ≤ 7 := by omega
                  have hk10i : (k : Int) ≤ 10 := by omega
                  obtain ⟨x', hx⟩ : ∃ x, L.prs[j]? = some x := ⟨L.prs[j], by simp [hpl, hlt]⟩
                  have c0 : wr.cell? ⟨wb, 0, none⟩ = some (.slice (some ⟨gl, 0, none⟩) m cl) := by rw [← HV.out]; exact cell_blk hL.cp 0
                  obtain ⟨gl', cl', cur, hvl, -, hbl, hcell⟩ := hL.l.cell (i := j) (x := twoCells x') (by simp [hx])
                  rw [List.length_map, hpl, HV.out] at hvl
                  cases hvl
                  have t0 : wr.cell? ⟨gl, j * 2, none⟩ = some (.pointer (some ⟨x'.cb, 0, none⟩)) := (cell_blk hbl _).trans (hcell 0 _ rfl)
                  have t1 : wr.cell? ⟨gl, j * 2 + 1, none⟩ = some (.pointer (some ⟨x'.yb, 0, none⟩)) := (cell_blk hbl _).trans (hcell 1 _ rfl)
                  have HA := hide (asks_d base wb L j x' wr hL hx hbr (by omega) (by omega) k (by omega))
                  clear hcell hx hbl
                  go_wp2_with fail
                  refine HA.out.mono ?_
                  rintro e w3 ⟨rfl, L', hN, hpr, hL3, hB3⟩
                  have hft3 := hft.next (hN.mono (by omega))
                  have e8 : i + 5 * j + (k - 3) + 1 = i + 5 * j + (k + 1 - 3) := by omega
                  rw [e8] at hft3
                  go_wp2_with fail
                  go_roundg (8 - (k + 1))
                  case measure => omega
                  case rel => exact ⟨k + 1, L', rfl, by go_num, by omega, by omega, rfl, hN.prs.trans hpl, hide (hN.vl.trans HV.out), hft3, hL3, hB.trans hB3⟩
                · have hk7i : ¬ (k : Int) ≤ 7 := by omega
                  have hkd : decide ((k : Int) ≤ 7) = false := by simp; omega
                  obtain rfl : k = 8 := by omega
                  go_wp2_with fail
                  go_roundg (m - (j + 1))
                  case measure => omega
                  case rel => exact ⟨j + 1, L, rfl, by go_num, by omega, rfl, hpl, HV, by have e8 : i + 5 * (j + 1) = i + 5 * j + (8 - 3) := by { omega }; rw [e8]; exact hft, hL, hB⟩
            · have HLk := hide (looks_d base wb L wr hL (by omega) (by omega))
              go_wp2_with fail
              refine HLk.out.mono ?_
              rintro e w4 ⟨rfl, hB4⟩
              go_wp2_with fail
              go_ret
              exact ⟨rfl, by rw [hbase]; exact hB.trans (hB4.mono hbr)⟩

end Go.Proofs.YtachmkhbbbmioaaGreat

namespace Go.Proofs.YtachmkhbbbmioaaGreat
open Go.RowKit Go.Shelf

set_option maxRecDepth 100000 in
set_option maxHeartbeats 1000000 in
theorem ticks_all (c : Int) (hc1 : -9223372036854775808 ≤ c) (hc2 : c ≤ 9223372036854775807) (a : Option Addr) (len cap : Nat) (hlen : len ≤ 1048576) (w : World)
    (hs : ∀ i, i < len → ∃ b off k C A B s, a = some ⟨b, off, none⟩ ∧ b < w.heap.size ∧ ActIn w b off i k C A B s) :
    Calls Tryz.prog 6 #[.int .i64 c, .slice a len cap] w fun e w' => e = .returned (.bool true) ∧ Below w.heap.size w w' := by
  have hC := hide (plays_e false c hc1 hc2 a len cap hlen w hs)
  clear hs
  go_enter Tryz.func6, Tryz.ntmps6
  go_wp2_with fail
  refine hC.out.mono ?_
  rintro e w' ⟨rfl, hB⟩
  go_wp2_with fail
  go_ret
  exact ⟨rfl, hB⟩

set_option maxRecDepth 100000 in
set_option maxHeartbeats 1000000 in
theorem all_all (c : Int) (hc1 : -9223372036854775808 ≤ c) (hc2 : c ≤ 9223372036854775807) (a : Option Addr) (len cap : Nat) (hlen : len ≤ 1048576) (w : World)
    (hs : ∀ i, i < len → ∃ b off k C A B s, a = some ⟨b, off, none⟩ ∧ b < w.heap.size ∧ ActIn w b off i k C A B s) :
    Calls Tryz.prog 10 #[.int .i64 c, .slice a len cap] w fun e w' => e = .returned (.bool true) ∧ Below w.heap.size w w' := by
  have hC := hide (plays_e true c hc1 hc2 a len cap hlen w hs)
  clear hs
  go_enter Tryz.func10, Tryz.ntmps10
  go_wp2_with fail
  refine hC.out.mono ?_
  rintro e w' ⟨rfl, hB⟩
  go_wp2_with fail
  go_ret
  exact ⟨rfl, hB⟩

end Go.Proofs.YtachmkhbbbmioaaGreat

import Derived.Test.YtachmkhbbbmioaaGreatTkFX
import Derived.Test.YtachmkhbbbmioaaGreatRdGX
import Derived.Test.YtachmkhbbbmioaaGreatFrRX
import Derived.Test.YtachmkhbbbmioaaGreatBadX
import Derived.Test.YtachmkhbbbmioaaGreatNetGX
import Derived.Test.YtachmkhbbbmioaaGreatBytX
import Derived.Test.YtachmkhbbbmioaaGreatNetF
namespace Go.Proofs.YtachmkhbbbmioaaGreat
open Go.RowKit Go.Shelf

set_option maxRecDepth 100000 in
set_option maxHeartbeats 4000000 in
theorem stHandNo (sb ma mp lb mb : Nat) (S : CS) (hG : Good S) (D : List UInt8) (hD : NoFr S.n D) (w : World) (hS : StAt sb ma mp lb mb S w) :
    Calls Tryz.prog 64 #[.pointer (some ⟨sb, 0, none⟩), str D] w fun e w' => e = .returned (.tuple #[.slice none 0 0, .int .i64 6]) ∧ w.grownBy w' none := by
  have h8 := hG.n8
  have h1 : 1 ≤ S.n := Nat.le_trans hG.s1 hG.sn
  have c0 : w.cell? ⟨sb, 0, none⟩ = some (.int .i64 S.n) := cell_blk hS.st 0
  have HR : Hid (Calls Tryz.prog 87 #[.int .i64 S.n, str D] w fun e w' => e = .returned (.tuple #[.agg #[.int .i64 0, .int .i64 0, .int .i64 0, .int .i64 0, .int .i64 0, .int .i64 0, .int .i64 0, .int .i64 0, .int .i64 0, .int .i64 0, .slice none 0 0], .bool false]) ∧ w.grownBy w' none) := hide ((readP S.n h1 h8 D w).mono (by
    rintro e w' ⟨g, ⟨rfl, -⟩ | ⟨s, q, hd, hl, he, -⟩ | ⟨l, v, hb, hl, he, -⟩⟩
    · exact ⟨rfl, g⟩
    · exact (hD.1 _ hd hl he).elim
    · exact (hD.2 _ hb hl he).elim))
  clear hS hD
  go_enter Tryz.func64, Tryz.ntmps64
  go_wp2_with fail
  refine HR.out.mono ?_
  rintro e w1 ⟨rfl, g1⟩
  go_wp2_with fail
  exact bodyPost_ret (v := .tuple #[.slice none 0 0, .int .i64 6]) (by simp [results, Tryz.results64, go_sem]) rfl ⟨rfl, grown_trans g1 (grown_alloc (grown_refl _) _)⟩

set_option maxRecDepth 100000 in
set_option maxHeartbeats 8000000 in
theorem stHandBat (sb ma mp lb mb : Nat) (S : CS) (hI : Inv S) (l : List OpR) (hl : bOk S.n l) (w : World) (hS : StAt sb ma mp lb mb S w) (h120 : (sealB (66 :: bEnc S.n l)).length ≤ 120) :
    Calls Tryz.prog 64 #[.pointer (some ⟨sb, 0, none⟩), str (sealB (66 :: bEnc S.n l))] w fun e w' => e = .returned (.tuple #[.slice none 0 0, .int .i64 0]) ∧ StAt sb ma mp lb mb (takesAll S l) w' ∧ Fr (own5 sb ma mp mb) w w' := by
  have hG := hI.good
  have h8 := hG.n8
  have h1 : 1 ≤ S.n := Nat.le_trans hG.s1 hG.sn
  have hlt := hS.lts
  have hll := hl.1
  have c0 : w.cell? ⟨sb, 0, none⟩ = some (.int .i64 S.n) := cell_blk hS.st 0
  have HR : Hid (Calls Tryz.prog 87 #[.int .i64 S.n, str (sealB (66 :: bEnc S.n l))] w fun e w' => ∃ v, e = .returned (.tuple #[.agg (frArr 1 0 (fun _ => 0) v), .bool true]) ∧ RowAt 154 15 v (opRow l) w' ∧ (∀ g, v.ownBlock = some g → w.heap.size ≤ g) ∧ w.grownBy w' none) := hide ((readP S.n h1 h8 _ w).mono (by
    rintro e w' ⟨g, ⟨-, hn⟩ | ⟨s, q, hd, -, he, -⟩ | ⟨l', v, hb, -, he, hv, ho, rfl⟩⟩
    · exact (hn.2 _ hl h120 rfl).elim
    · exact (dig_bat he.symm).elim
    · rw [← bat_one h8 hl hb he] at hv
      exact ⟨v, rfl, hv, ho, g⟩))
  generalize sealB (66 :: bEnc S.n l) = D at HR ⊢
  clear h120
  go_enter Tryz.func64, Tryz.ntmps64
  go_wp2_with fail
  refine HR.out.mono ?_
  rintro e w1 ⟨v, rfl, hv, hvo, g1⟩
  obtain ⟨av, cv, rfl, -⟩ := hv.value
  rw [opRow_len] at hv hvo ⊢
  unfold frArr
  go_upto_region 8 with fail
  have g2 : w1.grownBy (w1.alloc (.cells #[.int .i64 1, .int .i64 0, .int .i64 0, .int .i64 0, .int .i64 0, .int .i64 0, .int .i64 0, .int .i64 0, .int .i64 0, .int .i64 0, .slice av l.length cv] 143)) none := grown_alloc (grown_refl _) _
  have k2 : (w1.alloc (.cells #[.int .i64 1, .int .i64 0, .int .i64 0, .int .i64 0, .int .i64 0, .int .i64 0, .int .i64 0, .int .i64 0, .int .i64 0, .int .i64 0, .slice av l.length cv] 143)).heap[w1.heap.size]? = some (.cells #[.int .i64 1, .int .i64 0, .int .i64 0, .int .i64 0, .int .i64 0, .int .i64 0, .int .i64 0, .int .i64 0, .int .i64 0, .int .i64 0, .slice av l.length cv] 143) := by rw [heap_alloc_at]; simp
  generalize (w1.alloc (.cells #[.int .i64 1, .int .i64 0, .int .i64 0, .int .i64 0, .int .i64 0, .int .i64 0, .int .i64 0, .int .i64 0, .int .i64 0, .int .i64 0, .slice av l.length cv] 143)) = w2 at g2 k2 ⊢
  have hv2 := hv.grown g2
  have hS2 := hS.grown (grown_trans g1 g2)
  have hF2 : Fr (own5 sb ma mp mb) w w2 := (Fr.refl _ w).grown (grown_trans g1 g2) (by simp)
  generalize w1.heap.size = bf at k2 ⊢
  have d10 : w2.cell? ⟨bf, 10, none⟩ = some (.slice av l.length cv) := cell_blk k2 10
  clear HR g1 g2 k2 hv c0
  go_wp2_with fail
  go_loopg [39] l.length (fun gk s39 wr => ∃ i : Nat, s39 = .int .i64 i ∧ i ≤ l.length ∧ gk = l.length - i ∧ Hid (StAt sb ma mp lb mb (takesAll S (l.take i)) wr) ∧ RowAt 154 15 (.slice av l.length cv) (opRow l) wr ∧ Hid (Fr (own5 sb ma mp mb) w wr))
  case atStart => exact ⟨0, rfl, by omega, rfl, hide hS2, hv2, hide hF2⟩
  case round =>
    obtain ⟨i, rfl, hil, hgk, HSr, hvr, HFr⟩ := hrel
    by_cases hli0 : i < l.length
    · have hli : (i : Int) < (l.length : Int) := by omega
      obtain ⟨y, hy⟩ : ∃ y, l[i]? = some y := ⟨l[i], by simp [hli0]⟩
      have hm := List.mem_of_getElem? hy
      obtain ⟨gv, cv', cur, hv', -, hb, hc⟩ := hvr.cell (i := i) (x := y.arr.toList) (by simp [opRow, hy])
      rw [opRow_len] at hv'
      cases hv'
      have r0 : wr.cell? ⟨gv, i * 15, none⟩ = some (.int .i64 y.o) := (cell_blk hb _).trans (hc 0 _ rfl)
      have r1 : wr.cell? ⟨gv, i * 15 + 1, none⟩ = some (.int .i64 y.num) := (cell_blk hb _).trans (hc 1 _ rfl)
      have r2 : wr.cell? ⟨gv, i * 15 + 2, none⟩ = some (.int .i64 y.c) := (cell_blk hb _).trans (hc 2 _ rfl)
      have r3 : wr.cell? ⟨gv, i * 15 + 3, none⟩ = some (.int .i64 y.kind) := (cell_blk hb _).trans (hc 3 _ rfl)
      have r4 : wr.cell? ⟨gv, i * 15 + 4, none⟩ = some (.int .i64 y.tc) := (cell_blk hb _).trans (hc 4 _ rfl)
      have r5 : wr.cell? ⟨gv, i * 15 + 5, none⟩ = some (.int .i64 y.tk) := (cell_blk hb _).trans (hc 5 _ rfl)
      have r6 : wr.cell? ⟨gv, i * 15 + 6, none⟩ = some (.int .i32 y.r) := (cell_blk hb _).trans (hc 6 _ rfl)
      have r7 : wr.cell? ⟨gv, i * 15 + 7, none⟩ = some (.int .i64 (y.q 0)) := (cell_blk hb _).trans (hc 7 _ rfl)
      have r8 : wr.cell? ⟨gv, i * 15 + 8, none⟩ = some (.int .i64 (y.q 1)) := (cell_blk hb _).trans (hc 8 _ rfl)
      have r9 : wr.cell? ⟨gv, i * 15 + 9, none⟩ = some (.int .i64 (y.q 2)) := (cell_blk hb _).trans (hc 9 _ rfl)
      have r10 : wr.cell? ⟨gv, i * 15 + 10, none⟩ = some (.int .i64 (y.q 3)) := (cell_blk hb _).trans (hc 10 _ rfl)
      have r11 : wr.cell? ⟨gv, i * 15 + 11, none⟩ = some (.int .i64 (y.q 4)) := (cell_blk hb _).trans (hc 11 _ rfl)
      have r12 : wr.cell? ⟨gv, i * 15 + 12, none⟩ = some (.int .i64 (y.q 5)) := (cell_blk hb _).trans (hc 12 _ rfl)
      have r13 : wr.cell? ⟨gv, i * 15 + 13, none⟩ = some (.int .i64 (y.q 6)) := (cell_blk hb _).trans (hc 13 _ rfl)
      have r14 : wr.cell? ⟨gv, i * 15 + 14, none⟩ = some (.int .i64 (y.q 7)) := (cell_blk hb _).trans (hc 14 _ rfl)
      have g3 : wr.grownBy (wr.alloc (.cells #[.int .i64 y.o, .int .i64 y.num, .int .i64 y.c, .int .i64 y.kind, .int .i64 y.tc, .int .i64 y.tk, .int .i32 y.r, .int .i64 (y.q 0), .int .i64 (y.q 1), .int .i64 (y.q 2), .int .i64 (y.q 3), .int .i64 (y.q 4), .int .i64 (y.q 5), .int .i64 (y.q 6), .int .i64 (y.q 7)] 154)) none := grown_alloc (grown_refl _) _
      have HI := inv_takesAll (l.take i) hI (fun z hz => hl.2 z (List.mem_of_mem_take hz))
      have H8 : Ok8 (takesAll S (l.take i)).n y := by rw [(takesAll_n S _).1]; exact hl.2 y hm
      have HT := hide (take_any sb ma mp lb mb (takesAll S (l.take i)) HI y H8 (wr.alloc (.cells #[.int .i64 y.o, .int .i64 y.num, .int .i64 y.c, .int .i64 y.kind, .int .i64 y.tc, .int .i64 y.tk, .int .i32 y.r, .int .i64 (y.q 0), .int .i64 (y.q 1), .int .i64 (y.q 2), .int .i64 (y.q 3), .int .i64 (y.q 4), .int .i64 (y.q 5), .int .i64 (y.q 6), .int .i64 (y.q 7)] 154)) (HSr.out.grown g3))
      have HE := hide (takesAll_take S l i hy)
      have hsz : w.heap.size ≤ wr.heap.size := HFr.out.size
      have hFw : Fr (own5 sb ma mp mb) w (wr.alloc (.cells #[.int .i64 y.o, .int .i64 y.num, .int .i64 y.c, .int .i64 y.kind, .int .i64 y.tc, .int .i64 y.tk, .int .i32 y.r, .int .i64 (y.q 0), .int .i64 (y.q 1), .int .i64 (y.q 2), .int .i64 (y.q 3), .int .i64 (y.q 4), .int .i64 (y.q 5), .int .i64 (y.q 6), .int .i64 (y.q 7)] 154)) := HFr.out.grown g3 (by simp)
      have hvw := hvr.grown g3
      have hgv : w.heap.size ≤ gv := hvo gv rfl
      clear HI H8 hm hb hc hy HSr HFr hvr
      go_wp2_with fail
      generalize (wr.alloc (.cells #[.int .i64 y.o, .int .i64 y.num, .int .i64 y.c, .int .i64 y.kind, .int .i64 y.tc, .int .i64 y.tk, .int .i32 y.r, .int .i64 (y.q 0), .int .i64 (y.q 1), .int .i64 (y.q 2), .int .i64 (y.q 3), .int .i64 (y.q 4), .int .i64 (y.q 5), .int .i64 (y.q 6), .int .i64 (y.q 7)] 154)) = w3 at HT hFw hvw ⊢
      refine HT.out.mono ?_
      rintro e w4 ⟨rfl, hS4, hF4⟩
      have hv4 : RowAt 154 15 (.slice (some ⟨gv, 0, none⟩) l.length cv) (opRow l) w4 := hvw.kept (fun g hg => hF4.block g (hvw.lt hg) (fun q => by
        have hge := hvo g hg
        have h1 := hlt sb (by simp)
        have h2 := hlt ma (by simp)
        have h3 := hlt mp (by simp)
        have h4 := hlt mb (by simp)
        simp only [List.mem_cons, List.not_mem_nil, or_false] at q
        omega))
      go_wp2_with fail
      go_roundg (l.length - (i + 1))
      case measure => omega
      case rel => exact ⟨i + 1, by go_num, by omega, rfl, hide (by rw [HE.out]; exact hS4), hv4, hide (hFw.trans hF4)⟩
    · have e : l.take i = l := List.take_of_length_le (by omega)
      have HS : Hid (StAt sb ma mp lb mb (takesAll S l) wr) := hide (by have := HSr.out; rwa [e] at this)
      go_wp2_with fail
      exact bodyPost_ret (v := .tuple #[.slice none 0 0, .int .i64 0]) (by simp [results, Tryz.results64, go_sem]) rfl ⟨rfl, HS.out, HFr.out⟩

end Go.Proofs.YtachmkhbbbmioaaGreat

namespace Go.Proofs.YtachmkhbbbmioaaGreat
open Go.RowKit Go.Shelf

theorem pair_prog {x : Pr} {w w1 : World} (h : PairAt x w) (hc : CpAt x.cb x.sb x.ma x.mp x.lb x.mb x.S w1) (hF : Fr (own4 x.cb x.sb x.ma x.mb) w w1) : PairAt x w1 ∧ Fr x.own w w1 :=
  ⟨⟨hc, ref_after h hF, h.good, h.len, h.log, h.ops, lg_prog h hF, h.kd, wl_prog h hF, h.wo⟩, hF.mono (own4_sub x)⟩

theorem PairAt.below {x : Pr} {w w1 : World} (h : PairAt x w) (hB : Below w.heap.size w w1) : PairAt x w1 := h.kept (fun k hk => hB.block k (h.lt k hk))

theorem ask_text (x : Pr) (w : World) (h : PairAt x w) :
    Calls Tryz.prog 26 #[.pointer (some ⟨x.cb, 0, none⟩)] w fun e w1 => e = .returned (.string ⟨(txt (vis x.S.L)).toArray⟩) ∧ PairAt x w1 ∧ Fr x.own w w1 := by
  refine (face_text x.cb x.sb x.ma x.mp x.lb x.mb x.S w h.cp (.string ⟨(txt (vis x.S.L)).toArray⟩) (fun w2 => StAt x.sb x.ma x.mp x.lb x.mb x.S w2) (fun w1 _ hS => ?_)).mono ?_
  · refine (stText_any _ _ _ _ _ x.S w1 hS h.good.len).mono ?_
    rintro e w2 ⟨rfl, hB⟩
    exact ⟨rfl, hS.below hB, Fr.ofBelow hB⟩
  · rintro e w' ⟨rfl, w2, hS2, hk, rfl, hF⟩
    exact ⟨rfl, pair_prog h (CpAt.unlock hS2 hk) hF⟩

theorem ask_len (x : Pr) (w : World) (h : PairAt x w) :
    Calls Tryz.prog 44 #[.pointer (some ⟨x.cb, 0, none⟩)] w fun e w1 => e = .returned (.int .i64 (vis x.S.L).length) ∧ PairAt x w1 ∧ Fr x.own w w1 := by
  refine (face_len x.cb x.sb x.ma x.mp x.lb x.mb x.S w h.cp (.int .i64 (vis x.S.L).length) (fun w2 => StAt x.sb x.ma x.mp x.lb x.mb x.S w2) (fun w1 _ hS => ?_)).mono ?_
  · refine (stLen_any _ _ _ _ _ x.S w1 hS h.good.len).mono ?_
    rintro e w2 ⟨rfl, hB⟩
    exact ⟨rfl, hS.below hB, Fr.ofBelow hB⟩
  · rintro e w' ⟨rfl, w2, hS2, hk, rfl, hF⟩
    exact ⟨rfl, pair_prog h (CpAt.unlock hS2 hk) hF⟩

theorem ask_pending (x : Pr) (w : World) (h : PairAt x w) :
    Calls Tryz.prog 49 #[.pointer (some ⟨x.cb, 0, none⟩)] w fun e w1 => e = .returned (.int .i64 x.S.wt.length) ∧ PairAt x w1 ∧ Fr x.own w w1 := by
  refine (face_pending x.cb x.sb x.ma x.mp x.lb x.mb x.S w h.cp (.int .i64 x.S.wt.length) (fun w2 => StAt x.sb x.ma x.mp x.lb x.mb x.S w2) (fun w1 _ hS => ?_)).mono ?_
  · refine (stPending_any _ _ _ _ _ x.S w1 hS).mono ?_
    rintro e w2 ⟨rfl, hB⟩
    exact ⟨rfl, hS.below hB, Fr.ofBelow hB⟩
  · rintro e w' ⟨rfl, w2, hS2, hk, rfl, hF⟩
    exact ⟨rfl, pair_prog h (CpAt.unlock hS2 hk) hF⟩

theorem cl_flat (S : CS) : (ckRow S).flatten = clCells S := by
  unfold ckRow clCells
  induction List.range S.n with
  | nil => rfl
  | cons a l ih => rw [List.map_cons, List.flatten_cons, ih, List.map_cons]; rfl

theorem ask_clock (x : Pr) (w : World) (h : PairAt x w) :
    Calls Tryz.prog 28 #[.pointer (some ⟨x.cb, 0, none⟩)] w fun e w1 => e = .returned (.slice (some ⟨w.heap.size, 0, none⟩) x.S.n x.S.n) ∧ RowAt 3 1 (.slice (some ⟨w.heap.size, 0, none⟩) x.S.n x.S.n) (ckRow x.S) w1 ∧ PairAt x w1 ∧ Fr x.own w w1 := by
  refine (face_clock x.cb x.sb x.ma x.mp x.lb x.mb x.S w h.cp (.slice (some ⟨w.heap.size, 0, none⟩) x.S.n x.S.n) (fun w2 => StAt x.sb x.ma x.mp x.lb x.mb x.S w2 ∧ w2.heap[w.heap.size]? = some (.cells (clCells x.S).toArray 3)) (fun w1 hs hS => ?_)).mono ?_
  · refine (stClock_any _ _ _ _ _ x.S h.good w1 hS).mono ?_
    rintro e w2 ⟨rfl, hc, hB⟩
    rw [← hs]
    exact ⟨rfl, ⟨hS.below hB, hc⟩, Fr.ofBelow hB⟩
  · rintro e w' ⟨rfl, w2, ⟨hS2, hc⟩, hk, rfl, hF⟩
    have hlt := lt_of_heap h.cp.cp
    have h8 := h.good.n8
    have hb : (w2.setCell ⟨x.cb, 0, none⟩ (.int .i32 0)).heap[w.heap.size]? = some (.cells (clCells x.S).toArray 3) := by rw [Below.heap_setCell _ _ _ _ (by simp; omega)]; exact hc
    refine ⟨rfl, ⟨⟨by rw [cl_flat, ckRow_len]; simp [clCells], .inr ⟨_, _, _, by rw [ckRow_len], Nat.zero_le _, hb, by rw [ckRow_len]; exact Nat.le_refl _, by unfold maxLen; omega, by simp [clCells], ?_⟩⟩, ?_⟩, pair_prog h (CpAt.unlock hS2 hk) hF⟩
    · rw [cl_flat, ckRow_len]; exact List.take_of_length_le (by simp [clCells])
    · intro y hy
      obtain ⟨i, -, rfl⟩ := List.mem_map.1 hy
      rfl

theorem ck_at (S : CS) {i : Nat} (h : i < (ckRow S).length) : (ckRow S)[i]? = some [.int .i64 (S.cl i)] := ckRow_at S (by rwa [ckRow_len] at h)

set_option maxRecDepth 100000 in
set_option maxHeartbeats 1000000 in
theorem same_ints (S : CS) (h8 : S.n ≤ 8) (v u : Value) (w : World) (hv : RowAt 3 1 v (ckRow S) w) (hu : RowAt 3 1 u (ckRow S) w) :
    Calls Tryz.prog 46 #[v, u] w fun e w' => e = .returned (.bool true) ∧ w.grownBy w' none := by
  obtain ⟨av, cv, rfl, hcv⟩ := hv.value
  obtain ⟨au, cu, rfl, hcu⟩ := hu.value
  rw [ckRow_len] at hv hu hcv hcu ⊢
  have hne : ((S.n : Int) != (S.n : Int)) = false := by simp
  go_enter Tryz.func46, Tryz.ntmps46
  go_wp2_with fail
  go_loopg [5] S.n (fun g s5 wr => ∃ (i : Nat), s5 = .int .i64 i ∧ i ≤ S.n ∧ g = S.n - i ∧ w.grownBy wr none)
  case atStart => exact ⟨0, rfl, by omega, rfl, grown_refl _⟩
  case round =>
    obtain ⟨i, rfl, hi, hgk, hG⟩ := hrel
    by_cases hlt : i < S.n
    · have hli : (i : Int) < (S.n : Int) := by omega
      obtain ⟨g1, c1, cur1, hv1, -, hb1, hx1⟩ := (hv.grown hG).cell (i := i) (ckRow_at S hlt)
      obtain ⟨g2, c2, cur2, hv2, -, hb2, hx2⟩ := (hu.grown hG).cell (i := i) (ckRow_at S hlt)
      rw [ckRow_len] at hv1 hv2
      cases hv1
      cases hv2
      have k1 : wr.cell? ⟨g1, i, none⟩ = some (.int .i64 (S.cl i)) := (cell_blk hb1 _).trans (by simpa using hx1 0 _ rfl)
      have k2 : wr.cell? ⟨g2, i, none⟩ = some (.int .i64 (S.cl i)) := (cell_blk hb2 _).trans (by simpa using hx2 0 _ rfl)
      have hn2 : (S.cl i != S.cl i) = false := by simp
      go_wp2_with fail
      go_quiet (fail)
      go_wp2_with fail
      go_roundg (S.n - (i + 1))
      case measure => omega
      case rel => exact ⟨i + 1, by go_num, by omega, rfl, grown_trans hG (grown_drewN _ _)⟩
    · go_wp2_with fail
      go_ret
      exact ⟨rfl, hG⟩

/-- A list that is full of one number. -/
def fullRow (n : Nat) (m : Int) : List (List Value) := List.replicate n [.int .i64 m]
theorem fullRow_len (n : Nat) (m : Int) : (fullRow n m).length = n := by simp [fullRow]
theorem fullRow_at {n i : Nat} {m : Int} (h : i < n) : (fullRow n m)[i]? = some [.int .i64 m] := by simp [fullRow, h]

set_option maxRecDepth 100000 in
set_option maxHeartbeats 1000000 in
theorem full_ints (n : Nat) (h8 : n ≤ 1000) (m : Int) (v : Value) (w : World) (hv : RowAt 3 1 v (fullRow n m) w) :
    Calls Tryz.prog 52 #[v, .int .i64 m] w fun e w' => e = .returned (.bool true) ∧ w' = w := by
  obtain ⟨av, cv, rfl, hcv⟩ := hv.value
  rw [fullRow_len] at hv hcv ⊢
  go_enter Tryz.func52, Tryz.ntmps52
  go_wp2_with fail
  go_loopg [5] n (fun g s5 wr => ∃ (i : Nat), s5 = .int .i64 i ∧ i ≤ n ∧ g = n - i ∧ wr = w)
  case atStart => exact ⟨0, rfl, by omega, rfl, rfl⟩
  case round =>
    obtain ⟨i, rfl, hi, hgk, hw⟩ := hrel
    rw [hw]
    clear hw wr
    by_cases hlt : i < n
    · have hli : (i : Int) < (n : Int) := by omega
      obtain ⟨g1, c1, cur1, hv1, -, hb1, hx1⟩ := hv.cell (i := i) (fullRow_at hlt)
      rw [fullRow_len] at hv1
      cases hv1
      have k1 : w.cell? ⟨g1, i, none⟩ = some (.int .i64 m) := (cell_blk hb1 _).trans (by simpa using hx1 0 _ rfl)
      have hn2 : (m != m) = false := by simp
      go_wp2_with fail
      go_roundg (n - (i + 1))
      case measure => omega
      case rel => exact ⟨i + 1, by go_num, by omega, rfl, rfl⟩
    · go_wp2_with fail
      go_ret
      exact ⟨rfl, rfl⟩

end Go.Proofs.YtachmkhbbbmioaaGreat

namespace Go.Proofs.YtachmkhbbbmioaaGreat
open Go.RowKit Go.Shelf Go.MuLone

abbrev own6 (cb sb ma mp mb : Nat) : List Nat := [cb, sb, ma, mp, mb]

set_option maxRecDepth 100000 in
set_option maxHeartbeats 1000000 in
theorem face_hand2 (cb sb ma mp lb mb : Nat) (S : CS) (D : Value) (v : Value) (code : Int) (w : World) (h : CpAt cb sb ma mp lb mb S w) (Post : World → Prop)
    (hin : ∀ w1, w1.heap.size = w.heap.size → StAt sb ma mp lb mb S w1 → Calls Tryz.prog 64 #[.pointer (some ⟨sb, 0, none⟩), D] w1 fun e w2 => e = .returned (.tuple #[v, .int .i64 code]) ∧ Post w2 ∧ Fr (own5 sb ma mp mb) w1 w2) :
    Calls Tryz.prog 31 #[.pointer (some ⟨cb, 0, none⟩), D] w fun e w' => e = .returned (.tuple #[v, .int .i64 code]) ∧ ∃ w2, Post w2 ∧ w2.heap[cb]? = some (.cells #[.int .i32 1, .int .u32 0, .pointer (some ⟨sb, 0, none⟩)] 112) ∧ w' = w2.setCell ⟨cb, 0, none⟩ (.int .i32 0) ∧ Fr (own6 cb sb ma mp mb) w w' := by
  have c0 : w.cell? ⟨cb, 0, none⟩ = some (.int .i32 0) := cell_blk h.cp 0
  have f0 : w.frozen? ⟨cb, 0, none⟩ = false := frozen_blk h.cp 0
  obtain ⟨n1, n2, n3, n4, n5⟩ := h.ne
  have hS1 := h.locked (.int .i32 1)
  have k1 : (w.setCell ⟨cb, 0, none⟩ (.int .i32 1)).heap[cb]? = some (.cells #[.int .i32 1, .int .u32 0, .pointer (some ⟨sb, 0, none⟩)] 112) := by rw [set_blk h.cp]; rfl
  have c2 : (w.setCell ⟨cb, 0, none⟩ (.int .i32 1)).cell? ⟨cb, 2, none⟩ = some (.pointer (some ⟨sb, 0, none⟩)) := cell_blk k1 2
  have hF1 : Fr (own6 cb sb ma mp mb) w (w.setCell ⟨cb, 0, none⟩ (.int .i32 1)) := (Fr.refl _ w).setCell (.inl (by simp)) _
  have hC := hide (hin (w.setCell ⟨cb, 0, none⟩ (.int .i32 1)) (by simp [World.setCell]) hS1)
  clear hin
  go_enter_defers Tryz.func31, Tryz.ntmps31
  go_wp2_with (go_at_call 59; refine (lock_free muLib ⟨cb, 0, none⟩ _ c0 f0).mono ?_; rintro e w' ⟨rfl, rfl⟩)
  refine hC.out.mono ?_
  rintro e w2 ⟨rfl, hP, hF2⟩
  have k2 : w2.heap[cb]? = some (.cells #[.int .i32 1, .int .u32 0, .pointer (some ⟨sb, 0, none⟩)] 112) := hF2.blk k1 (by simp [n1, n2, n3, n5])
  go_wp2_with fail
  refine leaves_cons (f := 60) (args := #[.pointer (some ⟨cb, 0, none⟩)]) (by simp) (by simp [go_sem]) ?_
  refine (unlock_deferred muLib ⟨cb, 0, none⟩ .returning _ (cell_blk k2 0) (frozen_blk k2 0)).mono ?_
  rintro e u' w3 ⟨rfl, rfl, rfl⟩
  exact ⟨.tuple #[v, .int .i64 code], by simp [results, Tryz.results31, go_sem], rfl, w2, hP, k2, rfl, (hF1.trans (hF2.mono (by simp))).setCell (.inl (by simp)) _⟩

theorem strNil (w : World) : RowAt 9 1 (.slice none 0 0) (strRow []) w := row_nil 9 1 w

theorem packs_len (n : Nat) : ∀ (l sm : List OpR), (packs n sm l).length ≤ l.length + 1
  | [], sm => by unfold packs; split <;> simp
  | x :: l, sm => by
    rw [packs_cons]
    have h1 := packs_len n l [x]
    have h2 := packs_len n l (sm ++ [x])
    split
    · simp only [List.length_cons]; omega
    · simp only [List.length_cons]; omega

theorem answers_len {S : CS} (hG : Good S) (ho : OpsOk S) (q : Nat → Int) (hq : ∀ i, i < S.n → 0 ≤ q i ∧ q i ≤ 100) : (answers S.n (miss S q)).length ≤ 1000 := by
  have h1 := missTo_len hG ho q (fun i hi => (hq i hi).1) S.n (Nat.le_refl _)
  have h2 := packs_len S.n (miss S q) []
  have h8 := hG.n8
  unfold answers
  rw [List.length_map]
  have : (miss S q).length ≤ 100 * S.n := h1
  omega

end Go.Proofs.YtachmkhbbbmioaaGreat

namespace Go.Proofs.YtachmkhbbbmioaaGreat
open Go.RowKit Go.Shelf

theorem atI_nodup {l : List Int} (h : l.Nodup) {k : Nat} {r : Int} (hk : l[k]? = some r) : atI l r 0 = k := by
  refine atI_cut hk (fun j hj e => ?_)
  obtain ⟨h1, e1⟩ := List.getElem?_eq_some_iff.1 hk
  obtain ⟨h2, e2⟩ := List.getElem?_eq_some_iff.1 e
  exact List.pairwise_iff_getElem.1 h j k h2 h1 hj (by rw [e1, e2])

theorem sub2 {r s : Int} : ∀ {b : List Int}, [r, s].Sublist b → ∃ b1 b2, b = b1 ++ r :: b2 ∧ s ∈ b2
  | [], h => by cases h
  | x :: b, h => by
    cases h with
    | cons _ h => obtain ⟨b1, b2, e, hs⟩ := sub2 h; exact ⟨x :: b1, b2, by rw [e]; rfl, hs⟩
    | cons_cons _ h => exact ⟨[], b, rfl, by simpa using h⟩

/-- What both have stands in one order. -/
theorem atI_mono {a b : List Int} (hn : b.Nodup) (hc : (a.filter (fun r => decide (r ∈ b))).Sublist b) {i j : Nat} {r s : Int} (hij : i < j) (hi : a[i]? = some r) (hj : a[j]? = some s) (hr : r ∈ b) (hs : s ∈ b) : atI b r 0 < atI b s 0 := by
  have h1 : [r, s].Sublist a := by
    have e : a = a.take (i + 1) ++ a.drop (i + 1) := (List.take_append_drop _ _).symm
    rw [e]
    refine List.Sublist.append (l₁ := [r]) (r₁ := [s]) (List.singleton_sublist.2 ?_) (List.singleton_sublist.2 ?_)
    · exact List.mem_of_getElem? (i := i) (by rw [List.getElem?_take, if_pos (by omega)]; exact hi)
    · exact List.mem_of_getElem? (i := j - (i + 1)) (by rw [List.getElem?_drop]; rw [show i + 1 + (j - (i + 1)) = j by omega]; exact hj)
  have h2 := (h1.filter (fun r => decide (r ∈ b))).trans hc
  rw [List.filter_cons, if_pos (by simp [hr]), List.filter_cons, if_pos (by simp [hs])] at h2
  obtain ⟨b1, b2, e, hs2⟩ := sub2 (by simpa using h2)
  obtain ⟨k, hk, e2⟩ := List.getElem_of_mem hs2
  have r1 : b[b1.length]? = some r := by rw [e]; simp
  have s1 : b[b1.length + 1 + k]? = some s := by
    rw [e, List.getElem?_append_right (by omega), show b1.length + 1 + k - b1.length = k + 1 by omega, List.getElem?_cons_succ, ← e2]
    simp [hk]
  rw [atI_nodup hn r1, atI_nodup hn s1]
  omega

set_option maxRecDepth 100000 in
set_option maxHeartbeats 2000000 in
theorem alikeK (a b : List Int) (hla : a.length ≤ 1000000) (hlb : b.length ≤ 1000000) (hn : b.Nodup) (hc : (a.filter (fun r => decide (r ∈ b))).Sublist b) (v u : Value) (w : World) (hv : RowAt 21 1 v (runeRow a) w) (hu : RowAt 21 1 u (runeRow b) w) :
    Calls Tryz.prog 57 #[v, u] w fun e w' => e = .returned (.bool true) ∧ w' = w := by
  obtain ⟨av, cv, rfl, hcv⟩ := hv.value
  rw [runeRow_len] at hcv ⊢
  have HA := hide (fun r => atK b hlb r u w hu)
  have hpos : ∀ r, -1 ≤ atI b r 0 ∧ atI b r 0 < 1000000 := fun r => by
    by_cases q : r ∈ b
    · obtain ⟨k, h1, h2, -⟩ := atI_in (i := 0) q
      have := (List.getElem?_eq_some_iff.1 h2).1
      omega
    · rw [atI_out q]; omega
  go_enter Tryz.func57, Tryz.ntmps57
  go_wp2_with fail
  go_loopg [5, 6] a.length (fun gk s5 s6 wr => ∃ (i : Nat) (last : Int), s5 = .int .i64 last ∧ s6 = .int .i64 i ∧ i ≤ a.length ∧ gk = a.length - i ∧ (last = -1 ∨ ∃ j r, j < i ∧ a[j]? = some r ∧ r ∈ b ∧ last = atI b r 0) ∧ wr = w)
  case atStart => exact ⟨0, -1, rfl, rfl, by omega, rfl, .inl rfl, rfl⟩
  case round =>
    obtain ⟨i, last, rfl, rfl, hi, hgk, hlast, rfl⟩ := hrel
    by_cases hlt : i < a.length
    · have hli : (i : Int) < (a.length : Int) := by omega
      obtain ⟨y, hy⟩ : ∃ y, a[i]? = some y := ⟨a[i], by simp [hlt]⟩
      obtain ⟨g1, c1, cur1, hv1, -, hb1, hx1⟩ := hv.cell (i := i) (runeRow_at hy)
      rw [runeRow_len] at hv1
      cases hv1
      have k1 : wr.cell? ⟨g1, i, none⟩ = some (.int .i32 y) := (cell_blk hb1 _).trans (by simpa using hx1 0 _ rfl)
      have hp := hpos y
      have HY := hide (HA.out y)
      clear hx1 hb1 HA
      by_cases q : y ∈ b
      · have hgt : last < atI b y 0 := by
          rcases hlast with rfl | ⟨j, r, j1, j2, j3, rfl⟩
          · obtain ⟨k, h1, -, -⟩ := atI_in (i := 0) q; omega
          · exact atI_mono hn hc j1 j2 hy j3 q
        have h0 : 0 ≤ atI b y 0 := by obtain ⟨k, h1, -, -⟩ := atI_in (i := 0) q; omega
        obtain ⟨k, hk⟩ : ∃ k, atI b y 0 = k := ⟨_, rfl⟩
        rw [hk] at hp hgt h0 HY
        have hn1 : ¬ k ≤ last := by omega
        go_wp2_with fail
        refine HY.out.mono ?_
        rintro e w1 ⟨rfl, rfl⟩
        go_wp2_with fail
        go_roundg (a.length - (i + 1))
        case measure => omega
        case rel => exact ⟨i + 1, k, rfl, by go_num, by omega, rfl, .inr ⟨i, y, by omega, hy, q, hk.symm⟩, rfl⟩
      · rw [atI_out q] at HY
        go_wp2_with fail
        refine HY.out.mono ?_
        rintro e w1 ⟨rfl, rfl⟩
        go_wp2_with fail
        go_roundg (a.length - (i + 1))
        case measure => omega
        case rel => exact ⟨i + 1, last, rfl, by go_num, by omega, rfl, hlast.imp id (fun ⟨j, r, j1, j2⟩ => ⟨j, r, by omega, j2⟩), rfl⟩
    · have hli : ¬ (i : Int) < (a.length : Int) := by omega
      go_wp2_with fail
      go_ret
      exact ⟨rfl, rfl⟩

set_option maxRecDepth 100000 in
set_option maxHeartbeats 1000000 in
/-- Have two clocks the same numbers? -/
theorem sameIntsK (S T : CS) (h8 : S.n ≤ 8) (hST : T.n = S.n) (v u : Value) (w : World) (hv : RowAt 3 1 v (ckRow S) w) (hu : RowAt 3 1 u (ckRow T) w) :
    Calls Tryz.prog 58 #[v, u] w fun e w' => ∃ b, e = .returned (.bool b) ∧ (b = true ↔ ∀ i, i < S.n → S.cl i = T.cl i) ∧ w.grownBy w' none := by
  obtain ⟨av, cv, rfl, hcv⟩ := hv.value
  obtain ⟨au, cu, rfl, hcu⟩ := hu.value
  rw [ckRow_len] at hv hu hcv hcu ⊢
  rw [hST] at hu hcu
  rw [ckRow_len, hST]
  have hne : ((S.n : Int) != (S.n : Int)) = false := by simp
  go_enter Tryz.func58, Tryz.ntmps58
  go_wp2_with fail
  go_loopg [5] S.n (fun g s5 wr => ∃ (i : Nat), s5 = .int .i64 i ∧ i ≤ S.n ∧ g = S.n - i ∧ (∀ j, j < i → S.cl j = T.cl j) ∧ w.grownBy wr none)
  case atStart => exact ⟨0, rfl, by omega, rfl, fun j hj => by omega, grown_refl _⟩
  case round =>
    obtain ⟨i, rfl, hi, hgk, hsame, hG⟩ := hrel
    by_cases hlt : i < S.n
    · have hli : (i : Int) < (S.n : Int) := by omega
      obtain ⟨g1, c1, cur1, hv1, -, hb1, hx1⟩ := (hv.grown hG).cell (i := i) (ckRow_at S hlt)
      obtain ⟨g2, c2, cur2, hv2, -, hb2, hx2⟩ := (hu.grown hG).cell (i := i) (ckRow_at T (by omega))
      rw [ckRow_len] at hv1 hv2
      rw [hST] at hv2
      cases hv1
      cases hv2
      have k1 : wr.cell? ⟨g1, i, none⟩ = some (.int .i64 (S.cl i)) := (cell_blk hb1 _).trans (by simpa using hx1 0 _ rfl)
      have k2 : wr.cell? ⟨g2, i, none⟩ = some (.int .i64 (T.cl i)) := (cell_blk hb2 _).trans (by simpa using hx2 0 _ rfl)
      by_cases q : S.cl i = T.cl i
      · have hn2 : (S.cl i != T.cl i) = false := by simp [q]
        go_wp2_with fail
        go_quiet (fail)
        go_wp2_with fail
        go_roundg (S.n - (i + 1))
        case measure => omega
        case rel => exact ⟨i + 1, by go_num, by omega, rfl, fun j hj => by
          by_cases e : j = i
          · rw [e]; exact q
          · exact hsame j (by omega), grown_trans hG (grown_drewN _ _)⟩
      · have hn2 : (S.cl i != T.cl i) = true := by simp [q]
        go_wp2_with fail
        go_quiet (fail)
        go_wp2_with fail
        go_ret
        exact ⟨false, rfl, by simp only [Bool.false_eq_true, false_iff]; exact fun h => q (h i hlt), grown_trans hG (grown_drewN _ _)⟩
    · go_wp2_with fail
      go_ret
      exact ⟨true, rfl, by simp only [true_iff]; exact fun j hj => hsame j (by omega), hG⟩

end Go.Proofs.YtachmkhbbbmioaaGreat

namespace Go.Proofs.YtachmkhbbbmioaaGreat
open Go.RowKit

/-- One step of the sum, over bits. -/
def bstep (h b : BitVec 32) : BitVec 32 := (h ^^^ b) * 16777619#32

theorem odd_inj {x y : BitVec 32} (h : x * 16777619#32 = y * 16777619#32) : x = y := by
  have e : (16777619#32 * 899433627#32) = 1#32 := by decide
  have h2 := congrArg (· * 899433627#32) h
  simp only [BitVec.mul_assoc, e, BitVec.mul_one] at h2
  exact h2

theorem xor_inj {x y b : BitVec 32} (h : x ^^^ b = y ^^^ b) : x = y := by
  have h2 := congrArg (· ^^^ b) h
  simp only [BitVec.xor_assoc, BitVec.xor_self, BitVec.xor_zero] at h2
  exact h2

theorem bstep_left {x y b : BitVec 32} (h : bstep x b = bstep y b) : x = y := xor_inj (odd_inj h)
theorem bstep_right {x b c : BitVec 32} (h : bstep x b = bstep x c) : b = c := by
  have h1 := odd_inj h
  rw [BitVec.xor_comm x b, BitVec.xor_comm x c] at h1
  exact xor_inj h1

theorem fstep_bv (h b : Int) : fstep h b = ((bstep (BitVec.ofInt 32 h) (BitVec.ofInt 32 b)).toNat : Int) := by
  show IntKind.u32.wrap (IntKind.u32.wrap ((BitVec.ofInt 32 h ^^^ BitVec.ofInt 32 b).toNat : Int) * 16777619) = _
  rw [IntKind.wrap_u32, IntKind.wrap_u32]
  unfold bstep
  rw [BitVec.toNat_mul]
  have hl := (BitVec.ofInt 32 h ^^^ BitVec.ofInt 32 b).isLt
  generalize (BitVec.ofInt 32 h ^^^ BitVec.ofInt 32 b).toNat = n at hl ⊢
  have e : (16777619#32).toNat = 16777619 := by decide
  rw [e]
  omega

theorem ofInt_inj {x y : Int} (hx : 0 ≤ x ∧ x < 4294967296) (hy : 0 ≤ y ∧ y < 4294967296) (h : BitVec.ofInt 32 x = BitVec.ofInt 32 y) : x = y := by
  have h2 := congrArg BitVec.toNat h
  simp only [BitVec.toNat_ofInt] at h2
  omega

theorem fstep_left {x y b : Int} (hx : 0 ≤ x ∧ x < 4294967296) (hy : 0 ≤ y ∧ y < 4294967296) (h : fstep x b = fstep y b) : x = y := by
  rw [fstep_bv, fstep_bv] at h
  exact ofInt_inj hx hy (bstep_left (BitVec.eq_of_toNat_eq (Int.ofNat_inj.1 h)))
theorem fstep_right {x b c : Int} (hb : 0 ≤ b ∧ b < 4294967296) (hc : 0 ≤ c ∧ c < 4294967296) (h : fstep x b = fstep x c) : b = c := by
  rw [fstep_bv, fstep_bv] at h
  exact ofInt_inj hb hc (bstep_right (BitVec.eq_of_toNat_eq (Int.ofNat_inj.1 h)))

theorem fold_inj : ∀ (R : List UInt8) {x y : Int}, (0 ≤ x ∧ x < 4294967296) → (0 ≤ y ∧ y < 4294967296) → R.foldl (fun h b => fstep h b.toNat) x = R.foldl (fun h b => fstep h b.toNat) y → x = y
  | [], _, _, _, _, h => h
  | _ :: R, _, _, hx, hy, h => fstep_left hx hy (fold_inj R (fstep_nn _ _) (fstep_nn _ _) h)

/-- Bytes that differ at one place have another sum. -/
theorem fsum_one {A R : List UInt8} {b c : UInt8} (h : fsum (A ++ b :: R) = fsum (A ++ c :: R)) : b = c := by
  unfold fsum at h
  rw [List.foldl_append, List.foldl_append, List.foldl_cons, List.foldl_cons] at h
  have h1 := fold_inj R (fstep_nn _ _) (fstep_nn _ _) h
  have hb := b.toNat_lt
  have hc := c.toNat_lt
  have h2 := fstep_right (b := b.toNat) (c := c.toNat) (by omega) (by omega) h1
  exact UInt8.toNat_inj.1 (by omega)

end Go.Proofs.YtachmkhbbbmioaaGreat

namespace Go.Proofs.YtachmkhbbbmioaaGreat
open Go.RowKit Go.Shelf

/-- A datagram of the copies themselves: a digest, or a batch of what was made. -/
def DgOk (n : Nat) (G : OpR → Prop) (s : List UInt8) : Prop :=
  (∃ d, dOk n d ∧ s = sealB (68 :: dEnc n d)) ∨ ∃ l, bOk n l ∧ (∀ x ∈ l, G x) ∧ s = sealB (66 :: bEnc n l) ∧ s.length ≤ 120

theorem DgOk.mono {n : Nat} {G G' : OpR → Prop} {s : List UInt8} (h : DgOk n G s) (e : ∀ x, G x → G' x) : DgOk n G' s := by
  rcases h with h | ⟨l, h1, h2, h3⟩
  · exact .inl h
  · exact .inr ⟨l, h1, fun x hx => e x (h2 x hx), h3⟩

theorem vb_one {x : Int} (h : 0 ≤ x ∧ x < 128) : (vb x.toNat).length = 1 := by rw [vb_small (by omega)]; rfl

theorem vbs_le (k : Nat) (l : List Int) (h : ∀ x ∈ l, (vb x.toNat).length ≤ k) : (vbs l).length ≤ k * l.length := by
  induction l with
  | nil => simp [vbs]
  | cons x l ih =>
    have h1 := h x (by simp)
    have h2 := ih (fun y hy => h y (by simp [hy]))
    simp only [vbs, List.length_append, List.length_cons, Nat.mul_add]
    omega

theorem clk_vbs {n : Nat} {q : Nat → Int} (h : ∀ i, i < n → 0 ≤ q i ∧ q i ≤ 100) : (vbs (clk n q)).length ≤ n := by
  have := vbs_le 1 (clk n q) (fun x hx => by
    obtain ⟨i, hi, rfl⟩ := clk_mem hx
    have := h i hi
    rw [vb_one (by omega)]; exact Nat.le_refl _)
  rw [clk_len] at this
  omega

theorem op_len {n : Nat} (h8 : n ≤ 8) {x : OpR} (h : Ok8 n x) : (x.bytes n).length ≤ 50 := by
  have h1 := clk_vbs h.q
  have h2 := vbs_le 6 x.nums (fun y hy => by
    refine vb_len 5 _ ?_
    have a1 := h.o
    have a2 := h.num
    have a3 := h.c
    have a4 := h.kind
    have a5 := h.tgt
    have : y = x.o ∨ y = x.num ∨ y = x.c ∨ y = x.kind ∨ y = x.tc ∨ y = x.tk ∨ (y = x.r ∧ x.kind = 0) := by
      unfold OpR.nums at hy
      split at hy
      · rename_i hk
        simp only [List.cons_append, List.nil_append, List.mem_cons, List.not_mem_nil, or_false] at hy
        rcases hy with q | q | q | q | q | q | q <;> simp [q, hk]
      · simp only [List.cons_append, List.nil_append, List.mem_cons, List.not_mem_nil, or_false] at hy
        rcases hy with q | q | q | q | q | q <;> simp [q]
    rcases this with q | q | q | q | q | q | ⟨q, k⟩
    · omega
    · omega
    · omega
    · omega
    · omega
    · omega
    · have := h.r k; unfold Sc at this; omega)
  have h3 : x.nums.length ≤ 7 := by unfold OpR.nums; split <;> simp
  unfold OpR.bytes
  rw [List.length_append]
  omega

theorem op_pos {n : Nat} {x : OpR} : 1 ≤ (x.bytes n).length := by
  unfold OpR.bytes OpR.nums
  simp only [List.cons_append, vbs, List.length_append]
  have : 1 ≤ (vb x.o.toNat).length := by
    unfold vb; split <;> simp
  omega

theorem packs_all {n : Nat} (h8 : n ≤ 8) : ∀ (l sm : List OpR), (∀ x ∈ l, Ok8 n x) → (sm.flatMap (OpR.bytes n)).length ≤ 114 → (sm ≠ [] ∨ True) → (packs n sm l).flatten = sm ++ l ∧ ∀ m ∈ packs n sm l, m ≠ [] ∧ (m.flatMap (OpR.bytes n)).length ≤ 114
  | [], sm, _, hs, _ => by
    unfold packs
    split
    · rename_i h
      have : sm = [] := List.eq_nil_of_length_eq_zero h
      subst this
      simp
    · rename_i h
      refine ⟨by simp, fun m hm => ?_⟩
      rw [List.mem_singleton.1 hm]
      exact ⟨fun q => h (by rw [q]; rfl), hs⟩
  | x :: l, sm, hl, hs, _ => by
    have hx := op_len h8 (hl x (by simp))
    rw [packs_cons]
    split
    · rename_i hgt
      obtain ⟨h1, h2⟩ := packs_all h8 l [x] (fun y hy => hl y (by simp [hy])) (by simp; omega) (.inr trivial)
      refine ⟨by rw [List.flatten_cons, h1]; rfl, fun m hm => ?_⟩
      rcases List.mem_cons.1 hm with rfl | hm
      · exact ⟨fun q => by rw [q] at hgt; simp at hgt; omega, hs⟩
      · exact h2 m hm
    · rename_i hle
      obtain ⟨h1, h2⟩ := packs_all h8 l (sm ++ [x]) (fun y hy => hl y (by simp [hy])) (by rw [List.flatMap_append, List.length_append]; simp only [List.flatMap_cons, List.flatMap_nil, List.append_nil]; omega) (.inr trivial)
      exact ⟨by rw [h1]; simp, h2⟩

theorem flatN_ge {n : Nat} : ∀ (m : List OpR), m.length ≤ (m.flatMap (OpR.bytes n)).length
  | [] => by simp
  | x :: m => by
    have h1 := flatN_ge (n := n) m
    have h2 := op_pos (n := n) (x := x)
    simp only [List.flatMap_cons, List.length_append, List.length_cons]
    omega

theorem batch_enc (n : Nat) (l : List OpR) : batch n l = sealB (66 :: bEnc n l) := by
  unfold batch bEnc opsEnc vbI
  simp

theorem pack_ok {n : Nat} {m : List OpR} (h1 : m ≠ []) (h2 : (m.flatMap (OpR.bytes n)).length ≤ 114) (h3 : ∀ x ∈ m, Ok8 n x) : bOk n m ∧ (batch n m).length ≤ 120 := by
  have h4 := flatN_ge (n := n) m
  have h5 : 1 ≤ m.length := by cases m with
    | nil => exact (h1 rfl).elim
    | cons x m => simp
  refine ⟨⟨by omega, h3⟩, ?_⟩
  unfold batch
  rw [seal_len]
  have : (vb m.length).length = 1 := by rw [vb_small (by omega)]; rfl
  simp only [List.length_cons, List.length_append, this]
  omega

/-- What a copy answers: all that the clock lacks, in batches. -/
theorem NetOk.ans {n : Nat} {C : Nat → CS} {wr de : List Int} (h : NetOk n C wr de) {k : Nat} (hk : k < n) (q : Nat → Int) : (packs n [] (miss (C k) q)).flatten = miss (C k) q ∧ ∀ m ∈ packs n [] (miss (C k) q), bOk n m ∧ (∀ x ∈ m, Gm n C x) ∧ (batch n m).length ≤ 120 := by
  have hg : ∀ x ∈ miss (C k) q, Gm n C x := fun x hx => (h.b.of k hk).ops x (miss_mem hx)
  obtain ⟨h1, h2⟩ := packs_all h.b.n8 (miss (C k) q) [] (fun x hx => (hg x hx).1) (by simp) (.inr trivial)
  refine ⟨by simpa using h1, fun m hm => ?_⟩
  have hm' : ∀ x ∈ m, x ∈ miss (C k) q := fun x hx => by
    have : x ∈ (packs n [] (miss (C k) q)).flatten := List.mem_flatten.2 ⟨m, hm, hx⟩
    rw [h1] at this
    simpa using this
  obtain ⟨p1, p2⟩ := pack_ok (h2 m hm).1 (h2 m hm).2 (fun x hx => (hg x (hm' x hx)).1)
  exact ⟨p1, fun x hx => hg x (hm' x hx), p2⟩

theorem NetOk.ans_dg {n : Nat} {C : Nat → CS} {wr de : List Int} (h : NetOk n C wr de) {k : Nat} (hk : k < n) (q : Nat → Int) : ∀ s ∈ answers n (miss (C k) q), DgOk n (Gm n C) s := by
  intro s hs
  obtain ⟨m, hm, rfl⟩ := List.mem_map.1 hs
  obtain ⟨h1, h2, h3⟩ := (h.ans hk q).2 m hm
  exact .inr ⟨m, h1, h2, batch_enc n m, h3⟩

/-- What the clock does not count is answered. -/
theorem miss_has {S : CS} (ho : OpsOk S) {x : OpR} (hx : x ∈ S.ops) {q : Nat → Int} (hq : q (x.o.toNat - 1) < x.num) : x ∈ miss S q := by
  obtain ⟨h1, h2⟩ := ho.ok x hx
  have a := h1.o
  unfold miss missTo
  refine List.mem_flatMap.2 ⟨x.o.toNat - 1, List.mem_range.2 (by omega), ?_⟩
  unfold missO
  refine List.mem_flatMap.2 ⟨(x.num - (q (x.o.toNat - 1) + 1)).toNat, List.mem_range.2 (by omega), ?_⟩
  unfold ofName
  refine List.mem_filter.2 ⟨hx, ?_⟩
  simp only [Bool.and_eq_true, beq_iff_eq]
  omega

theorem NetOk.dig_ok {n : Nat} {C : Nat → CS} {wr de : List Int} (h : NetOk n C wr de) {i : Nat} (hi : i < n) : dOk n (((C i).s : Int), (C i).cl) := by
  have := h.b.cs i hi
  refine ⟨by simp only; omega, fun j hj => (h.b.inv i hi).good.cl j (by have := h.b.n8; omega), fun j hj => h.b.z i hi j hj⟩

/-! What is no frame. -/

theorem lob_inj {a b : Int} (h : lob a = lob b) : a % 256 = b % 256 := by
  unfold lob at h
  have := congrArg UInt8.toNat h
  simp at this
  omega

theorem sum4_inj {l m : List UInt8} (h : sum4 l = sum4 m) : fsum l = fsum m := by
  unfold sum4 at h
  simp only [List.cons.injEq, and_true] at h
  obtain ⟨h1, h2, h3, h4⟩ := h
  have e1 := lob_inj h1
  have e2 := lob_inj h2
  have e3 := lob_inj h3
  have e4 := lob_inj h4
  have b1 := fsum_nn l
  have b2 := fsum_nn m
  omega

/-- One byte turned: another sum. -/
theorem turned {A R m m' : List UInt8} {b c : UInt8} (hbc : b ≠ c) (h1 : A ++ b :: R = sealB m) (h2 : A ++ c :: R = sealB m') : False := by
  have l1 := congrArg List.length h1
  have l2 := congrArg List.length h2
  rw [seal_len] at l1 l2
  simp only [List.length_append, List.length_cons] at l1 l2
  unfold sealB at h1 h2
  by_cases q : A.length < m.length
  · have t1 : m = A ++ b :: R.take (m.length - A.length - 1) := by
      have := congrArg (List.take m.length) h1
      rw [List.take_left, List.take_append] at this
      refine this.symm.trans ?_
      rw [List.take_of_length_le (by omega)]
      congr 1
      rw [show m.length - A.length = (m.length - A.length - 1) + 1 by omega, List.take_succ_cons]
      rfl
    have t2 : m' = A ++ c :: R.take (m.length - A.length - 1) := by
      have := congrArg (List.take m'.length) h2
      rw [List.take_left, List.take_append] at this
      refine this.symm.trans ?_
      rw [List.take_of_length_le (by omega)]
      congr 1
      rw [show m'.length - A.length = (m.length - A.length - 1) + 1 by omega, List.take_succ_cons]
    have s1 : sum4 m = R.drop (m.length - A.length - 1) := by
      have := congrArg (List.drop m.length) h1
      rw [List.drop_left, List.drop_append, List.drop_of_length_le (by omega)] at this
      rw [← this, show m.length - A.length = (m.length - A.length - 1) + 1 by omega, List.drop_succ_cons]
      rfl
    have s2 : sum4 m' = R.drop (m.length - A.length - 1) := by
      have := congrArg (List.drop m'.length) h2
      rw [List.drop_left, List.drop_append, List.drop_of_length_le (by omega)] at this
      rw [← this, show m'.length - A.length = (m.length - A.length - 1) + 1 by omega, List.drop_succ_cons]
      rfl
    have := sum4_inj (s1.trans s2.symm)
    rw [t1, t2] at this
    exact hbc (fsum_one this)
  · have t1 : m = A.take m.length := by
      have := congrArg (List.take m.length) h1
      rw [List.take_left, List.take_append_of_le_length (by omega)] at this
      exact this.symm
    have t2 : m' = A.take m.length := by
      have := congrArg (List.take m'.length) h2
      rw [List.take_left, List.take_append_of_le_length (by omega)] at this
      rw [← this, show m'.length = m.length by omega]
    have e : m = m' := t1.trans t2.symm
    rw [← e, ← h1] at h2
    have := List.append_cancel_left h2
    simp only [List.cons.injEq, and_true] at this
    exact hbc this.symm

/-- A datagram of which one byte is another is no frame. -/
theorem turned_no {n : Nat} {G : OpR → Prop} {A R : List UInt8} {b c : UInt8} (hbc : b ≠ c) (h : DgOk n G (A ++ b :: R)) : NoFr n (A ++ c :: R) := by
  obtain ⟨m, hm⟩ : ∃ m, A ++ b :: R = sealB m := by
    rcases h with ⟨d, -, h⟩ | ⟨l, -, -, h, -⟩
    · exact ⟨_, h⟩
    · exact ⟨_, h⟩
  exact ⟨fun d _ _ e => turned hbc hm e, fun l _ _ e => turned hbc hm e⟩

/-- A byte behind a frame: no frame. -/
theorem more_no {n : Nat} (h8 : n ≤ 8) {G : OpR → Prop} {s : List UInt8} (h : DgOk n G s) (b : UInt8) : NoFr n (s ++ [b]) := by
  have key : ∀ m m' : List UInt8, sealB m ++ [b] = sealB m' → ∃ c, m ++ [c] = m' := by
    intro m m' e
    have l1 := congrArg List.length e
    rw [List.length_append, seal_len, seal_len] at l1
    simp only [List.length_cons, List.length_nil] at l1
    unfold sealB at e
    have := congrArg (List.take m'.length) e
    rw [List.take_left, List.append_assoc, List.take_append, List.take_of_length_le (by omega), show m'.length - m.length = 1 by omega] at this
    unfold sum4 at this
    exact ⟨_, this⟩
  rcases h with ⟨d, hd, rfl⟩ | ⟨l, hl, -, rfl, -⟩
  · refine ⟨fun d' hd' _ e => ?_, fun l' hl' _ e => ?_⟩
    · obtain ⟨c, e1⟩ := key _ _ e
      rw [List.cons_append] at e1
      have e2 := (List.cons.inj e1).2
      obtain ⟨s, q⟩ := d
      obtain ⟨s', q'⟩ := d'
      have a := hd.1
      have b := hd'.1
      simp only at a b
      unfold dEnc at e2
      rw [List.append_assoc] at e2
      obtain ⟨-, e3⟩ := vbI_one ⟨by omega, by omega⟩ ⟨by omega, by omega⟩ e2
      obtain ⟨-, e4⟩ := vbs_one (r := [c]) (r' := []) (by rw [clk_len, clk_len]) (clk_n7 hd.2.1) (clk_n7 hd'.2.1) (by simpa [cEnc] using e3)
      cases e4
    · obtain ⟨c, e1⟩ := key _ _ e
      rw [List.cons_append] at e1
      exact absurd (List.cons.inj e1).1 (by decide)
  · refine ⟨fun d' hd' _ e => ?_, fun l' hl' _ e => ?_⟩
    · obtain ⟨c, e1⟩ := key _ _ e
      rw [List.cons_append] at e1
      exact absurd (List.cons.inj e1).1 (by decide)
    · obtain ⟨c, e1⟩ := key _ _ e
      rw [List.cons_append] at e1
      have e2 := (List.cons.inj e1).2
      have a := hl.1
      have b := hl'.1
      unfold bEnc at e2
      rw [List.append_assoc] at e2
      obtain ⟨v1, e3⟩ := vbI_one ⟨by omega, by omega⟩ ⟨by omega, by omega⟩ e2
      obtain ⟨-, e4⟩ := ops_one h8 (r := [c]) (r' := []) (by omega) hl.2 hl'.2 (by simpa using e3)
      cases e4

theorem DgOk.ne {n : Nat} {G : OpR → Prop} {s : List UInt8} (h : DgOk n G s) : s ≠ [] := by
  intro q
  rcases h with ⟨d, -, h⟩ | ⟨l, -, -, h, -⟩
  · have := congrArg List.length h; rw [seal_len, q] at this; simp at this
  · have := congrArg List.length h; rw [seal_len, q] at this; simp at this

theorem DgOk.len {n : Nat} (h8 : n ≤ 8) {G : OpR → Prop} {s : List UInt8} (h : DgOk n G s) : s.length ≤ 120 := by
  rcases h with ⟨d, hd, h⟩ | ⟨l, -, -, -, h⟩
  · rw [h, seal_len]
    have h1 := clk_vbs hd.2.1
    have a := hd.1
    have h2 : (vbI d.1).length = 1 := vb_one (by omega)
    unfold dEnc cEnc
    simp only [List.length_cons, List.length_append]
    omega
  · exact h

end Go.Proofs.YtachmkhbbbmioaaGreat

namespace Go.Proofs.YtachmkhbbbmioaaGreat
open Go.RowKit Go.Shelf

/-- A copy: where it lies, what it knows. -/
structure Cq where
  cb : Nat
  sb : Nat
  ma : Nat
  mp : Nat
  lb : Nat
  mb : Nat
  S : CS

def Cq.own (x : Cq) : List Nat := [x.cb, x.sb, x.ma, x.mp, x.lb, x.mb]
def Cq.At (x : Cq) (w : World) : Prop := CpAt x.cb x.sb x.ma x.mp x.lb x.mb x.S w
abbrev Cq.ptr (x : Cq) : Value := .pointer (some ⟨x.cb, 0, none⟩)

theorem Cq.At.lt {x : Cq} {w : World} (h : x.At w) : ∀ k ∈ x.own, k < w.heap.size := CpAt.lt h
theorem Cq.At.kept {x : Cq} {w w' : World} (h : x.At w) (e : ∀ k ∈ x.own, w'.heap[k]? = w.heap[k]?) : x.At w' := CpAt.kept h e

theorem q4_in (x : Cq) : ∀ k ∈ own4 x.cb x.sb x.ma x.mb, k ∈ x.own := by
  intro k hk
  simp only [List.mem_cons, List.not_mem_nil, or_false] at hk
  simp only [Cq.own, List.mem_cons, List.not_mem_nil, or_false]
  omega
theorem q6_in (x : Cq) : ∀ k ∈ own6 x.cb x.sb x.ma x.mp x.mb, k ∈ x.own := by
  intro k hk
  simp only [List.mem_cons, List.not_mem_nil, or_false] at hk
  simp only [Cq.own, List.mem_cons, List.not_mem_nil, or_false]
  omega

theorem qText (x : Cq) (w : World) (h : x.At w) (hI : Inv x.S) :
    Calls Tryz.prog 26 #[x.ptr] w fun e w1 => e = .returned (str (txtR (tx x.S))) ∧ x.At w1 ∧ Fr x.own w w1 := by
  rw [← txt_tx]
  refine (face_text x.cb x.sb x.ma x.mp x.lb x.mb x.S w h (.string ⟨(txt (vis x.S.L)).toArray⟩) (fun w2 => StAt x.sb x.ma x.mp x.lb x.mb x.S w2) (fun w1 _ hS => ?_)).mono ?_
  · refine (stText_any _ _ _ _ _ x.S w1 hS hI.good.len).mono ?_
    rintro e w2 ⟨rfl, hB⟩
    exact ⟨rfl, hS.below hB, Fr.ofBelow hB⟩
  · rintro e w' ⟨rfl, w2, hS2, hk, rfl, hF⟩
    exact ⟨rfl, CpAt.unlock hS2 hk, hF.mono (q4_in x)⟩

theorem qLen (x : Cq) (w : World) (h : x.At w) (hI : Inv x.S) :
    Calls Tryz.prog 44 #[x.ptr] w fun e w1 => e = .returned (.int .i64 (tx x.S).length) ∧ x.At w1 ∧ Fr x.own w w1 := by
  have hl : (tx x.S).length = (vis x.S.L).length := by simp [tx]
  rw [hl]
  refine (face_len x.cb x.sb x.ma x.mp x.lb x.mb x.S w h (.int .i64 (vis x.S.L).length) (fun w2 => StAt x.sb x.ma x.mp x.lb x.mb x.S w2) (fun w1 _ hS => ?_)).mono ?_
  · refine (stLen_any _ _ _ _ _ x.S w1 hS hI.good.len).mono ?_
    rintro e w2 ⟨rfl, hB⟩
    exact ⟨rfl, hS.below hB, Fr.ofBelow hB⟩
  · rintro e w' ⟨rfl, w2, hS2, hk, rfl, hF⟩
    exact ⟨rfl, CpAt.unlock hS2 hk, hF.mono (q4_in x)⟩

theorem qPending (x : Cq) (w : World) (h : x.At w) :
    Calls Tryz.prog 49 #[x.ptr] w fun e w1 => e = .returned (.int .i64 x.S.wt.length) ∧ x.At w1 ∧ Fr x.own w w1 := by
  refine (face_pending x.cb x.sb x.ma x.mp x.lb x.mb x.S w h (.int .i64 x.S.wt.length) (fun w2 => StAt x.sb x.ma x.mp x.lb x.mb x.S w2) (fun w1 _ hS => ?_)).mono ?_
  · refine (stPending_any _ _ _ _ _ x.S w1 hS).mono ?_
    rintro e w2 ⟨rfl, hB⟩
    exact ⟨rfl, hS.below hB, Fr.ofBelow hB⟩
  · rintro e w' ⟨rfl, w2, hS2, hk, rfl, hF⟩
    exact ⟨rfl, CpAt.unlock hS2 hk, hF.mono (q4_in x)⟩

theorem qClock (x : Cq) (w : World) (h : x.At w) (hI : Inv x.S) :
    Calls Tryz.prog 28 #[x.ptr] w fun e w1 => ∃ v, e = .returned v ∧ RowAt 3 1 v (ckRow x.S) w1 ∧ (∀ g, v.ownBlock = some g → w.heap.size ≤ g) ∧ x.At w1 ∧ Fr x.own w w1 := by
  refine (face_clock x.cb x.sb x.ma x.mp x.lb x.mb x.S w h (.slice (some ⟨w.heap.size, 0, none⟩) x.S.n x.S.n) (fun w2 => StAt x.sb x.ma x.mp x.lb x.mb x.S w2 ∧ w2.heap[w.heap.size]? = some (.cells (clCells x.S).toArray 3)) (fun w1 hs hS => ?_)).mono ?_
  · refine (stClock_any _ _ _ _ _ x.S hI.good w1 hS).mono ?_
    rintro e w2 ⟨rfl, hc, hB⟩
    rw [← hs]
    exact ⟨rfl, ⟨hS.below hB, hc⟩, Fr.ofBelow hB⟩
  · rintro e w' ⟨rfl, w2, ⟨hS2, hc⟩, hk, rfl, hF⟩
    have hlt := lt_of_heap h.cp
    have h8 := hI.good.n8
    have hb : (w2.setCell ⟨x.cb, 0, none⟩ (.int .i32 0)).heap[w.heap.size]? = some (.cells (clCells x.S).toArray 3) := by rw [Below.heap_setCell _ _ _ _ (by simp; omega)]; exact hc
    refine ⟨_, rfl, ⟨⟨by rw [cl_flat, ckRow_len]; simp [clCells], .inr ⟨_, _, _, by rw [ckRow_len], Nat.zero_le _, hb, by rw [ckRow_len]; exact Nat.le_refl _, by unfold maxLen; omega, by simp [clCells], ?_⟩⟩, ?_⟩, fun g hg => by cases hg; exact Nat.le_refl _, CpAt.unlock hS2 hk, hF.mono (q4_in x)⟩
    · rw [cl_flat, ckRow_len]; exact List.take_of_length_le (by simp [clCells])
    · intro y hy
      obtain ⟨i, -, rfl⟩ := List.mem_map.1 hy
      rfl

theorem qTick (x : Cq) (w : World) (h : x.At w) (hI : Inv x.S) :
    Calls Tryz.prog 30 #[x.ptr] w fun e w1 => e = .returned (str (digest x.S.n x.S.s x.S.cl)) ∧ x.At w1 ∧ Fr x.own w w1 := by
  refine (face_tick x.cb x.sb x.ma x.mp x.lb x.mb x.S w h (str (digest x.S.n x.S.s x.S.cl)) (fun w2 => StAt x.sb x.ma x.mp x.lb x.mb x.S w2) (fun w1 _ hS => ?_)).mono ?_
  · refine (stTickP _ _ _ _ _ x.S hI.good w1 hS).mono ?_
    rintro e w2 ⟨rfl, hg⟩
    exact ⟨rfl, hS.grown hg, Fr.ofGrown hg⟩
  · rintro e w' ⟨rfl, w2, hS2, hk, rfl, hF⟩
    exact ⟨rfl, CpAt.unlock hS2 hk, hF.mono (q4_in x)⟩

theorem qHandNo (x : Cq) (D : List UInt8) (hD : NoFr x.S.n D) (w : World) (h : x.At w) (hI : Inv x.S) :
    Calls Tryz.prog 31 #[x.ptr, str D] w fun e w1 => e = .returned (.tuple #[.slice none 0 0, .int .i64 6]) ∧ x.At w1 ∧ Fr x.own w w1 := by
  refine (face_hand2 x.cb x.sb x.ma x.mp x.lb x.mb x.S (str D) (.slice none 0 0) 6 w h (fun w2 => StAt x.sb x.ma x.mp x.lb x.mb x.S w2) (fun w1 _ hS => ?_)).mono ?_
  · refine (stHandNo _ _ _ _ _ x.S hI.good D hD w1 hS).mono ?_
    rintro e w2 ⟨rfl, hg⟩
    exact ⟨rfl, hS.grown hg, (Fr.refl _ _).grown hg (by simp)⟩
  · rintro e w' ⟨rfl, w2, hS2, hk, rfl, hF⟩
    exact ⟨rfl, CpAt.unlock hS2 hk, hF.mono (q6_in x)⟩

theorem qHandBat (x : Cq) (l : List OpR) (hl : bOk x.S.n l) (h120 : (sealB (66 :: bEnc x.S.n l)).length ≤ 120) (w : World) (h : x.At w) (hI : Inv x.S) :
    Calls Tryz.prog 31 #[x.ptr, str (sealB (66 :: bEnc x.S.n l))] w fun e w1 => e = .returned (.tuple #[.slice none 0 0, .int .i64 0]) ∧ Cq.At { x with S := takesAll x.S l } w1 ∧ Fr x.own w w1 := by
  refine (face_hand2 x.cb x.sb x.ma x.mp x.lb x.mb x.S (str (sealB (66 :: bEnc x.S.n l))) (.slice none 0 0) 0 w h (fun w2 => StAt x.sb x.ma x.mp x.lb x.mb (takesAll x.S l) w2) (fun w1 _ hS => ?_)).mono ?_
  · exact stHandBat _ _ _ _ _ x.S hI l hl w1 hS h120
  · rintro e w' ⟨rfl, w2, hS2, hk, rfl, hF⟩
    exact ⟨rfl, CpAt.unlock hS2 hk, hF.mono (q6_in x)⟩

theorem qHandDig (x : Cq) (s : Int) (hs1 : 1 ≤ s) (hsn : s ≤ x.S.n) (q : Nat → Int) (hq : ∀ i, i < x.S.n → 0 ≤ q i ∧ q i ≤ 100) (w : World) (h : x.At w) (hI : Inv x.S) :
    Calls Tryz.prog 31 #[x.ptr, str (digest x.S.n s q)] w fun e w1 => ∃ v, e = .returned (.tuple #[v, .int .i64 0]) ∧ RowAt 9 1 v (strRow (answers x.S.n (miss x.S q))) w1 ∧ (∀ g, v.ownBlock = some g → w.heap.size ≤ g) ∧ x.At w1 ∧ Fr x.own w w1 := by
  have hcb := lt_of_heap h.cp
  refine (face_hand x.cb x.sb x.ma x.mp x.lb x.mb x.S (str (digest x.S.n s q)) w h (fun v w2 => StAt x.sb x.ma x.mp x.lb x.mb x.S w2 ∧ RowAt 9 1 v (strRow (answers x.S.n (miss x.S q))) w2 ∧ ∀ g, v.ownBlock = some g → w.heap.size ≤ g) (fun w1 hw1 hS => ?_)).mono ?_
  · refine (stHandP _ _ _ _ _ x.S hI.good hI.ops s hs1 hsn q hq w1 hS).mono ?_
    rintro e w2 ⟨v, rfl, hR, hg, hO⟩
    exact ⟨v, rfl, ⟨hS.grown hg, hR, fun g hg => by rw [← hw1]; exact hO g hg⟩, Fr.ofGrown hg⟩
  · rintro e w' ⟨v, rfl, w2, ⟨hS2, hR, hO⟩, hk, rfl, hF⟩
    exact ⟨v, rfl, hR.kept (fun g hg => Below.heap_setCell _ _ _ _ (by have := hO g hg; simp; omega)), hO, CpAt.unlock hS2 hk, hF.mono (q4_in x)⟩

theorem qIns (x : Cq) (p : Nat) (r : Int) (hp : p ≤ (tx x.S).length) (hr : Lib.validRune r = true) (hf : decide (100 ≤ x.S.cl (x.S.s - 1) ∨ 1099511627776 ≤ x.S.g) = false) (w : World) (h : x.At w) (hI : Inv x.S) :
    Calls Tryz.prog 54 #[x.ptr, .int .i64 p, .int .i32 r] w fun e w1 => e = .returned (.int .i64 0) ∧ ∃ A R, CutIs x.S.L p A R ∧ Cq.At { x with S := { x.S with cl := bump x.S.cl (x.S.s - 1), g := x.S.g + 1, L := A ++ behind (newEl x.S r hr) R, ops := opIns x.S (lc A) (lk A) r :: x.S.ops } } w1 ∧ Fr x.own w w1 := by
  have hl : (tx x.S).length = (vis x.S.L).length := by simp [tx]
  refine (face_ins x.cb x.sb x.ma x.mp x.lb x.mb x.S p r w h (.int .i64 0) (fun w2 => ∃ A R, CutIs x.S.L p A R ∧ StAt x.sb x.ma x.mp x.lb x.mb { x.S with cl := bump x.S.cl (x.S.s - 1), g := x.S.g + 1, L := A ++ behind (newEl x.S r hr) R, ops := opIns x.S (lc A) (lk A) r :: x.S.ops } w2) (fun w1 _ hS => ?_)).mono ?_
  · refine (stIns_ok _ _ _ _ _ x.S hI.good p r w1 hS (by omega) hr hf).mono ?_
    rintro e w2 ⟨rfl, A, R, hC, hS2, hF⟩
    exact ⟨rfl, ⟨A, R, hC, hS2⟩, hF⟩
  · rintro e w' ⟨rfl, w2, ⟨A, R, hC, hS2⟩, hk, rfl, hF⟩
    exact ⟨rfl, A, R, hC, CpAt.unlock hS2 hk, hF.mono (q4_in x)⟩

theorem qDel (x : Cq) (p : Nat) (hp : p < (tx x.S).length) (hf : decide (100 ≤ x.S.cl (x.S.s - 1) ∨ 1099511627776 ≤ x.S.g) = false) (w : World) (h : x.At w) (hI : Inv x.S) :
    Calls Tryz.prog 82 #[x.ptr, .int .i64 p] w fun e w1 => e = .returned (.int .i64 0) ∧ ∃ A y R, x.S.L = A ++ y :: R ∧ (vis A).length = p ∧ y.d = false ∧ Cq.At { x with S := { x.S with cl := bump x.S.cl (x.S.s - 1), g := x.S.g + 1, L := A ++ gone y :: R, ops := opDel x.S y.c y.k :: x.S.ops } } w1 ∧ Fr x.own w w1 := by
  have hl : (tx x.S).length = (vis x.S.L).length := by simp [tx]
  refine (face_del x.cb x.sb x.ma x.mp x.lb x.mb x.S p w h (.int .i64 0) (fun w2 => ∃ A y R, x.S.L = A ++ y :: R ∧ (vis A).length = p ∧ y.d = false ∧ StAt x.sb x.ma x.mp x.lb x.mb { x.S with cl := bump x.S.cl (x.S.s - 1), g := x.S.g + 1, L := A ++ gone y :: R, ops := opDel x.S y.c y.k :: x.S.ops } w2) (fun w1 _ hS => ?_)).mono ?_
  · refine (stDel_ok _ _ _ _ _ x.S hI.good p w1 hS (by omega) (by omega) hf).mono ?_
    rintro e w2 ⟨rfl, A, y, R, h1, h2, h3, hS2, hF⟩
    exact ⟨rfl, ⟨A, y, R, h1, by simpa using h2, h3, hS2⟩, hF⟩
  · rintro e w' ⟨rfl, w2, ⟨A, y, R, h1, h2, h3, hS2⟩, hk, rfl, hF⟩
    exact ⟨rfl, A, y, R, h1, h2, h3, CpAt.unlock hS2 hk, hF.mono (q4_in x)⟩

theorem qDelBad (x : Cq) (p : Int) (hp : p < 0 ∨ (tx x.S).length ≤ p) (w : World) (h : x.At w) (hI : Inv x.S) :
    Calls Tryz.prog 82 #[x.ptr, .int .i64 p] w fun e w1 => e = .returned (.int .i64 3) ∧ x.At w1 ∧ Fr x.own w w1 := by
  have hl : (tx x.S).length = (vis x.S.L).length := by simp [tx]
  refine (face_del x.cb x.sb x.ma x.mp x.lb x.mb x.S p w h (.int .i64 3) (fun w2 => StAt x.sb x.ma x.mp x.lb x.mb x.S w2) (fun w1 _ hS => ?_)).mono ?_
  · refine (stDel_place _ _ _ _ _ x.S p w1 hS hI.good.len (by omega)).mono ?_
    rintro e w2 ⟨rfl, hB⟩
    exact ⟨rfl, hS.below hB, Fr.ofBelow hB⟩
  · rintro e w' ⟨rfl, w2, hS2, hk, rfl, hF⟩
    exact ⟨rfl, CpAt.unlock hS2 hk, hF.mono (q4_in x)⟩

end Go.Proofs.YtachmkhbbbmioaaGreat

namespace Go.Proofs.YtachmkhbbbmioaaGreat
open Go.RowKit Go.Shelf

/-- What a net holds. -/
structure NS where
  vl : Value
  va : Value
  vw : Value
  vd : Value
  cps : List Cq
  air : List (List UInt8)
  wr : List Int
  de : List Int

def NS.own (N : NS) (nb : Nat) : List Nat := nb :: (N.vl.ownBlock.toList ++ (N.va.ownBlock.toList ++ (N.vw.ownBlock.toList ++ N.vd.ownBlock.toList)))
def ptrRow (cps : List Cq) : List (List Value) := cps.map fun x => [x.ptr]
theorem ptrRow_len (cps : List Cq) : (ptrRow cps).length = cps.length := by simp [ptrRow]
theorem ptrRow_at {cps : List Cq} {i : Nat} {x : Cq} (h : cps[i]? = some x) : (ptrRow cps)[i]? = some [x.ptr] := by simp [ptrRow, h]

abbrev netCells (vl va vw vd : Value) : Obj := .cells #[vl, va, vw, vd] 58

/-- A net in memory: no block is held by two. -/
structure NAt (base nb : Nat) (N : NS) (w : World) : Prop where
  cp : w.heap[nb]? = some (netCells N.vl N.va N.vw N.vd)
  l : RowAt 36 1 N.vl (ptrRow N.cps) w
  ar : RowAt 9 1 N.va (strRow N.air) w
  wr : RowAt 21 1 N.vw (runeRow N.wr) w
  de : RowAt 21 1 N.vd (runeRow N.de) w
  cps : ∀ (j : Nat) (x : Cq), N.cps[j]? = some x → x.At w
  wd : ∀ g, N.vw.ownBlock = some g → N.vd.ownBlock ≠ some g
  ow : ∃ ow : Nat → Nat, (∀ k ∈ N.own nb, ow k = 0 ∧ base ≤ k) ∧ ∀ (j : Nat) (x : Cq), N.cps[j]? = some x → ∀ k ∈ x.own, ow k = j + 1 ∧ base ≤ k

theorem NAt.lo {base nb : Nat} {N : NS} {w : World} (h : NAt base nb N w) : ∀ k ∈ N.own nb, k < w.heap.size := by
  intro k hk
  simp only [NS.own, List.mem_cons, List.mem_append, Option.mem_toList] at hk
  rcases hk with rfl | hk | hk | hk | hk
  · exact lt_of_heap h.cp
  · exact h.l.lt hk
  · exact h.ar.lt hk
  · exact h.wr.lt hk
  · exact h.de.lt hk

theorem NAt.kept {base nb : Nat} {N : NS} {w w' : World} (h : NAt base nb N w) (e : ∀ k, k < w.heap.size → w'.heap[k]? = w.heap[k]?) : NAt base nb N w' :=
  ⟨(e nb (lt_of_heap h.cp)).trans h.cp, h.l.kept (fun g hg => e g (h.l.lt hg)), h.ar.kept (fun g hg => e g (h.ar.lt hg)), h.wr.kept (fun g hg => e g (h.wr.lt hg)), h.de.kept (fun g hg => e g (h.de.lt hg)), fun j x hj => (h.cps j x hj).kept (fun k hk => e k ((h.cps j x hj).lt k hk)), h.wd, h.ow⟩

theorem NAt.grown {base nb : Nat} {N : NS} {w w' : World} (h : NAt base nb N w) (g : w.grownBy w' none) : NAt base nb N w' := h.kept (fun k hk => g.block k hk (by simp))

/-- A copy's blocks are none of the net's own, and none of another's. -/
theorem NAt.apart {base nb : Nat} {N : NS} {w : World} (h : NAt base nb N w) {j : Nat} {x : Cq} (hj : N.cps[j]? = some x) : (∀ k ∈ N.own nb, k ∉ x.own) ∧ (∀ i y, N.cps[i]? = some y → i ≠ j → ∀ k ∈ y.own, k ∉ x.own) ∧ ∀ k ∈ x.own, base ≤ k := by
  obtain ⟨ow, o1, o2⟩ := h.ow
  refine ⟨fun k hk q => ?_, fun i y hi hne k hk q => ?_, fun k hk => (o2 j x hj k hk).2⟩
  · have := (o1 k hk).1; have := (o2 j x hj k q).1; omega
  · have := (o2 i y hi k hk).1; have := (o2 j x hj k q).1; omega

/-- One copy has been called. -/
theorem NAt.turn {base nb : Nat} {N : NS} {w w' : World} (h : NAt base nb N w) {j : Nat} {x : Cq} (hj : N.cps[j]? = some x) (hb : base ≤ w.heap.size) {S : CS} (hx : Cq.At { x with S := S } w') (hF : Fr x.own w w') : NAt base nb { N with cps := N.cps.set j { x with S := S } } w' ∧ Below base w w' := by
  obtain ⟨a1, a2, a3⟩ := h.apart hj
  have hjl := (List.getElem?_eq_some_iff.1 hj).1
  have key : ∀ k ∈ N.own nb, w'.heap[k]? = w.heap[k]? := fun k hk => hF.block k (h.lo k hk) (a1 k hk)
  have hp : ptrRow (N.cps.set j { x with S := S }) = ptrRow N.cps := by
    unfold ptrRow
    rw [List.map_set]
    have : [Cq.ptr { x with S := S }] = [x.ptr] := rfl
    rw [this]
    apply List.ext_getElem?
    intro i
    rw [List.getElem?_set]
    split
    · rename_i q
      subst q
      rw [if_pos (by simpa using hjl), List.getElem?_map, hj]
      rfl
    · rfl
  have at' : ∀ (i : Nat) (y : Cq), (N.cps.set j { x with S := S })[i]? = some y → (i = j ∧ y = { x with S := S }) ∨ (i ≠ j ∧ N.cps[i]? = some y) := fun i y hi => by
    rw [List.getElem?_set] at hi
    by_cases q : j = i
    · rw [if_pos q, if_pos hjl] at hi
      cases hi
      exact .inl ⟨q.symm, rfl⟩
    · rw [if_neg q] at hi
      exact .inr ⟨fun e => q e.symm, hi⟩
  refine ⟨⟨(key nb (by simp [NS.own])).trans h.cp, ?_, h.ar.kept (fun g hg => key g (by simp [NS.own, hg])), h.wr.kept (fun g hg => key g (by simp [NS.own, hg])), h.de.kept (fun g hg => key g (by simp [NS.own, hg])), fun i y hi => ?_, h.wd, ?_⟩, hF.toBelow hb a3⟩
  · show RowAt 36 1 N.vl (ptrRow (N.cps.set j { x with S := S })) w'
    rw [hp]
    exact h.l.kept (fun g hg => key g (by simp [NS.own, hg]))
  · rcases at' i y hi with ⟨-, rfl⟩ | ⟨hne, hi⟩
    · exact hx
    · exact (h.cps i y hi).kept (fun k hk => hF.block k ((h.cps i y hi).lt k hk) (a2 i y hi hne k hk))
  · obtain ⟨ow, o1, o2⟩ := h.ow
    refine ⟨ow, o1, fun i y hi k hk => ?_⟩
    rcases at' i y hi with ⟨rfl, rfl⟩ | ⟨-, hi⟩
    · exact o2 i x hj k hk
    · exact o2 i y hi k hk

theorem NAt.same {base nb : Nat} {N : NS} {w w' : World} (h : NAt base nb N w) {j : Nat} {x : Cq} (hj : N.cps[j]? = some x) (hb : base ≤ w.heap.size) (hx : x.At w') (hF : Fr x.own w w') : NAt base nb N w' ∧ Below base w w' := by
  have := h.turn hj hb (S := x.S) hx hF
  have e : N.cps.set j x = N.cps := by
    obtain ⟨hl, hx⟩ := List.getElem?_eq_some_iff.1 hj
    rw [← hx]; exact List.set_getElem_self hl
  have e2 : { N with cps := N.cps.set j { x with S := x.S } } = N := by
    show { N with cps := N.cps.set j x } = N
    rw [e]
  rw [e2] at this
  exact this

/-- Something of the net's own has turned, and a copy may have come. -/
theorem NAt.law {base nb : Nat} {N N' : NS} {w w' : World} (h : NAt base nb N w) (hb : base ≤ w.heap.size) (newO : List Nat) (hn : ∀ k ∈ newO, w.heap.size ≤ k)
    (hcp : w'.heap[nb]? = some (netCells N'.vl N'.va N'.vw N'.vd)) (hl : RowAt 36 1 N'.vl (ptrRow N'.cps) w') (har : RowAt 9 1 N'.va (strRow N'.air) w') (hw : RowAt 21 1 N'.vw (runeRow N'.wr) w') (hd : RowAt 21 1 N'.vd (runeRow N'.de) w')
    (hwd : ∀ g, N'.vw.ownBlock = some g → N'.vd.ownBlock ≠ some g) (hown : ∀ k ∈ N'.own nb, k ∈ N.own nb ∨ (w.heap.size ≤ k ∧ k ∉ newO))
    (hcps : ∀ (j : Nat) (x : Cq), N'.cps[j]? = some x → N.cps[j]? = some x ∨ (x.At w' ∧ x.own = newO ∧ j = N.cps.length)) (hF : Fr (N.own nb) w w') : NAt base nb N' w' ∧ Below base w w' := by
  obtain ⟨ow, o1, o2⟩ := h.ow
  refine ⟨⟨hcp, hl, har, hw, hd, fun j x hj => ?_, hwd, fun k => if k ∈ newO then N.cps.length + 1 else if k < w.heap.size then ow k else 0, fun k hk => ?_, fun j x hj k hk => ?_⟩, hF.toBelow hb (fun k hk => (o1 k hk).2)⟩
  · rcases hcps j x hj with hj | ⟨hx, -⟩
    · exact (h.cps j x hj).kept (fun k hk => hF.block k ((h.cps j x hj).lt k hk) (fun q => (h.apart hj).1 k q hk))
    · exact hx
  · rcases hown k hk with hk | ⟨h1, h2⟩
    · have hlt := h.lo k hk
      simp only
      rw [if_neg (fun q => by have := hn k q; omega), if_pos hlt]
      exact o1 k hk
    · simp only
      rw [if_neg h2, if_neg (by omega)]
      exact ⟨rfl, by omega⟩
  · rcases hcps j x hj with hj | ⟨-, hx, rfl⟩
    · have hlt := (h.cps j x hj).lt k hk
      simp only
      rw [if_neg (fun q => by have := hn k q; omega), if_pos hlt]
      exact o2 j x hj k hk
    · rw [hx] at hk
      simp only
      rw [if_pos hk]
      exact ⟨rfl, by have := hn k hk; omega⟩

/-- The air is another. -/
theorem NAt.aired {base nb : Nat} {N : NS} {va' : Value} {air' : List (List UInt8)} {w w' : World} (h : NAt base nb N w) (hb : base ≤ w.heap.size)
    (hc : w'.heap[nb]? = some (netCells N.vl va' N.vw N.vd)) (hrow : RowAt 9 1 va' (strRow air') w') (hF : Fr (nb :: N.va.ownBlock.toList) w w') (h2 : ∀ k, va'.ownBlock = some k → N.va.ownBlock = some k ∨ w.heap.size ≤ k) : NAt base nb { N with va := va', air := air' } w' ∧ Below base w w' := by
  have nk : ∀ {e : TypeId} {k : Nat} {u : Value} {xs : List (List Value)}, RowAt e k u xs w → e ≠ 58 → e ≠ 9 → RowAt e k u xs w' := by
    intro e k u xs hu n1 n2
    refine hu.kept (fun b hb => hF.block b (hu.lt hb) (fun q => ?_))
    simp only [List.mem_cons, Option.mem_toList] at q
    rcases q with rfl | q
    · exact hu.neBlk h.cp n1 hb
    · exact hu.ne h.ar n2 hb q
  refine h.law (N' := { N with va := va', air := air' }) hb [] (by simp) hc (nk h.l (by decide) (by decide)) hrow (nk h.wr (by decide) (by decide)) (nk h.de (by decide) (by decide)) h.wd (fun k hk => ?_) (fun j x hj => .inl hj) (hF.mono (fun k hk => ?_))
  · simp only [NS.own, List.mem_cons, List.mem_append, Option.mem_toList] at hk ⊢
    rcases hk with hk | hk | hk | hk | hk
    · simp [hk]
    · simp [hk]
    · rcases h2 k hk with q | q
      · simp [q]
      · exact .inr ⟨q, by simp⟩
    · simp [hk]
    · simp [hk]
  · simp only [NS.own, List.mem_cons, List.mem_append, Option.mem_toList] at hk ⊢
    rcases hk with hk | hk <;> simp [hk]

/-- More was written. -/
theorem NAt.wrote {base nb : Nat} {N : NS} {vw' : Value} {wr' : List Int} {w w' : World} (h : NAt base nb N w) (hb : base ≤ w.heap.size)
    (hc : w'.heap[nb]? = some (netCells N.vl N.va vw' N.vd)) (hrow : RowAt 21 1 vw' (runeRow wr') w') (hF : Fr (nb :: N.vw.ownBlock.toList) w w') (h2 : ∀ k, vw'.ownBlock = some k → N.vw.ownBlock = some k ∨ w.heap.size ≤ k) : NAt base nb { N with vw := vw', wr := wr' } w' ∧ Below base w w' := by
  have nk : ∀ {e : TypeId} {k : Nat} {u : Value} {xs : List (List Value)}, RowAt e k u xs w → e ≠ 58 → (∀ b, u.ownBlock = some b → N.vw.ownBlock ≠ some b) → RowAt e k u xs w' := by
    intro e k u xs hu n1 n2
    refine hu.kept (fun b hb => hF.block b (hu.lt hb) (fun q => ?_))
    simp only [List.mem_cons, Option.mem_toList] at q
    rcases q with rfl | q
    · exact hu.neBlk h.cp n1 hb
    · exact n2 b hb q
  refine h.law (N' := { N with vw := vw', wr := wr' }) hb [] (by simp) hc (nk h.l (by decide) (fun b hb => h.l.ne h.wr (by decide) hb)) (nk h.ar (by decide) (fun b hb => h.ar.ne h.wr (by decide) hb)) hrow (nk h.de (by decide) (fun b hb q => h.wd b q hb)) (fun g hg q => ?_) (fun k hk => ?_) (fun j x hj => .inl hj) (hF.mono (fun k hk => ?_))
  · rcases h2 g hg with q2 | q2
    · exact h.wd g q2 q
    · have := h.de.lt q; omega
  · simp only [NS.own, List.mem_cons, List.mem_append, Option.mem_toList] at hk ⊢
    rcases hk with hk | hk | hk | hk | hk
    · simp [hk]
    · simp [hk]
    · simp [hk]
    · rcases h2 k hk with q | q
      · simp [q]
      · exact .inr ⟨q, by simp⟩
    · simp [hk]
  · simp only [NS.own, List.mem_cons, List.mem_append, Option.mem_toList] at hk ⊢
    rcases hk with hk | hk <;> simp [hk]

/-- More was deleted. -/
theorem NAt.deleted {base nb : Nat} {N : NS} {vd' : Value} {de' : List Int} {w w' : World} (h : NAt base nb N w) (hb : base ≤ w.heap.size)
    (hc : w'.heap[nb]? = some (netCells N.vl N.va N.vw vd')) (hrow : RowAt 21 1 vd' (runeRow de') w') (hF : Fr (nb :: N.vd.ownBlock.toList) w w') (h2 : ∀ k, vd'.ownBlock = some k → N.vd.ownBlock = some k ∨ w.heap.size ≤ k) : NAt base nb { N with vd := vd', de := de' } w' ∧ Below base w w' := by
  have nk : ∀ {e : TypeId} {k : Nat} {u : Value} {xs : List (List Value)}, RowAt e k u xs w → e ≠ 58 → (∀ b, u.ownBlock = some b → N.vd.ownBlock ≠ some b) → RowAt e k u xs w' := by
    intro e k u xs hu n1 n2
    refine hu.kept (fun b hb => hF.block b (hu.lt hb) (fun q => ?_))
    simp only [List.mem_cons, Option.mem_toList] at q
    rcases q with rfl | q
    · exact hu.neBlk h.cp n1 hb
    · exact n2 b hb q
  refine h.law (N' := { N with vd := vd', de := de' }) hb [] (by simp) hc (nk h.l (by decide) (fun b hb => h.l.ne h.de (by decide) hb)) (nk h.ar (by decide) (fun b hb => h.ar.ne h.de (by decide) hb)) (nk h.wr (by decide) h.wd) hrow (fun g hg q => ?_) (fun k hk => ?_) (fun j x hj => .inl hj) (hF.mono (fun k hk => ?_))
  · rcases h2 g q with q2 | q2
    · exact h.wd g hg q2
    · have := h.wr.lt hg; omega
  · simp only [NS.own, List.mem_cons, List.mem_append, Option.mem_toList] at hk ⊢
    rcases hk with hk | hk | hk | hk | hk
    · simp [hk]
    · simp [hk]
    · simp [hk]
    · simp [hk]
    · rcases h2 k hk with q | q
      · simp [q]
      · exact .inr ⟨q, by simp⟩
  · simp only [NS.own, List.mem_cons, List.mem_append, Option.mem_toList] at hk ⊢
    rcases hk with hk | hk <;> simp [hk]

/-- A copy has come. -/
theorem NAt.more {base nb : Nat} {N : NS} {vl' : Value} {x : Cq} {w w' : World} (h : NAt base nb N w) (hb : base ≤ w.heap.size) (hx : x.At w') (hxn : ∀ k ∈ x.own, w.heap.size ≤ k)
    (hc : w'.heap[nb]? = some (netCells vl' N.va N.vw N.vd)) (hrow : RowAt 36 1 vl' (ptrRow (N.cps ++ [x])) w') (hF : Fr (nb :: N.vl.ownBlock.toList) w w') (h2 : ∀ k, vl'.ownBlock = some k → N.vl.ownBlock = some k ∨ (w.heap.size ≤ k ∧ k ∉ x.own)) : NAt base nb { N with vl := vl', cps := N.cps ++ [x] } w' ∧ Below base w w' := by
  have nk : ∀ {e : TypeId} {k : Nat} {u : Value} {xs : List (List Value)}, RowAt e k u xs w → e ≠ 58 → e ≠ 36 → RowAt e k u xs w' := by
    intro e k u xs hu n1 n2
    refine hu.kept (fun b hb => hF.block b (hu.lt hb) (fun q => ?_))
    simp only [List.mem_cons, Option.mem_toList] at q
    rcases q with rfl | q
    · exact hu.neBlk h.cp n1 hb
    · exact hu.ne h.l n2 hb q
  refine h.law (N' := { N with vl := vl', cps := N.cps ++ [x] }) hb x.own hxn hc hrow (nk h.ar (by decide) (by decide)) (nk h.wr (by decide) (by decide)) (nk h.de (by decide) (by decide)) h.wd (fun k hk => ?_) (fun j y hj => ?_) (hF.mono (fun k hk => ?_))
  · have old : k ∈ N.own nb → k ∈ N.own nb ∨ (w.heap.size ≤ k ∧ k ∉ x.own) := .inl
    simp only [NS.own, List.mem_cons, List.mem_append, Option.mem_toList] at hk old ⊢
    rcases hk with hk | hk | hk | hk | hk
    · simp [hk]
    · rcases h2 k hk with q | q
      · simp [q]
      · exact .inr q
    · simp [hk]
    · simp [hk]
    · simp [hk]
  · have hj' : (N.cps ++ [x])[j]? = some y := hj
    rw [List.getElem?_append] at hj'
    split at hj'
    · exact .inl hj'
    · rename_i q
      have hl := (List.getElem?_eq_some_iff.1 hj').1
      simp only [List.length_cons, List.length_nil] at hl
      have e : j = N.cps.length := by omega
      rw [e] at hj'
      simp at hj'
      exact .inr ⟨by rw [← hj']; exact hx, by rw [← hj'], e⟩
  · simp only [NS.own, List.mem_cons, List.mem_append, Option.mem_toList] at hk ⊢
    rcases hk with hk | hk <;> simp [hk]

/-- What the copies know. -/
def NS.C (N : NS) : Nat → CS := fun i => match N.cps[i]? with
  | some x => x.S
  | none => newS 1 1

theorem NS.C_at {N : NS} {i : Nat} {x : Cq} (h : N.cps[i]? = some x) : N.C i = x.S := by unfold NS.C; rw [h]
theorem NS.C_set {N : NS} {i : Nat} {x : Cq} (h : N.cps[i]? = some x) (S : CS) : NS.C { N with cps := N.cps.set i { x with S := S } } = updC N.C i S := by
  have hl := (List.getElem?_eq_some_iff.1 h).1
  funext j
  unfold NS.C updC
  simp only
  rw [List.getElem?_set]
  by_cases q : i = j
  · subst q; simp [hl]
  · have q' : j ≠ i := fun e => q e.symm
    simp [q, q']

/-- A net, and all that holds of it. -/
structure NI (base nb : Nat) (N : NS) (n : Nat) (w : World) : Prop where
  at_ : NAt base nb N w
  len : N.cps.length = n
  ok : NetOk n N.C N.wr N.de
  air : ∀ s ∈ N.air, DgOk n (Gm n N.C) s

theorem NI.inv {base nb : Nat} {N : NS} {n : Nat} {w : World} (h : NI base nb N n w) {j : Nat} {x : Cq} (hj : N.cps[j]? = some x) : Inv x.S ∧ x.S.n = n ∧ x.S.s = j + 1 ∧ j < n := by
  have hl : j < n := by rw [← h.len]; exact (List.getElem?_eq_some_iff.1 hj).1
  have e := NS.C_at hj
  exact ⟨by rw [← e]; exact h.ok.b.inv j hl, by rw [← e]; exact h.ok.b.cn j hl, by rw [← e]; exact h.ok.b.cs j hl, hl⟩

end Go.Proofs.YtachmkhbbbmioaaGreat

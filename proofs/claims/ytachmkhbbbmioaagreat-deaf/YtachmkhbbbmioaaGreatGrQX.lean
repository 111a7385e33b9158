import Derived.Test.YtachmkhbbbmioaaGreatFrAX
import Derived.BigQuiet
import Derived.Test.YtachmkhbbbmioaaGreatDelM
import Derived.Test.YtachmkhbbbmioaaGreatFrRX
namespace Go.Proofs.YtachmkhbbbmioaaGreat
open Go.RowKit Go.Shelf

/-- A world in which new blocks may lie, and all that lay in w lies as it did. -/
structure Gr (w : World) where
  v : World
  h : w.grownBy v none

instance (w : World) : Nonempty (Gr w) := ⟨⟨w, grown_refl w⟩⟩

theorem Gr.cell {w : World} {a : Addr} {x : Value} (h : w.cell? a = some x) (g : Gr w) : g.v.cell? a = some x := cell_of_grown h g.h

/-- A region that only reads, whose callees may make new blocks: one walk, in the order of the text. -/
theorem region_gr {P : Program} {id : Nat} {Q : Exit → Act → World → Prop} {a : Act} {w : World} {l : List Oper} (hm : P.follows .mixedOrders = true) (hB : Region.lexB .any l.toArray = true)
    (h : wpQuiet P l.toArray (fun w' => ∃ g : Gr w, w' = g.v) (fun a' => ∀ w', (∃ g : Gr w, w' = g.v) → Q .normal a' w') l a) : (Code.region id l.toArray true).wp P Q a w :=
  wp_region_quiet (C := fun w' => ∃ g : Gr w, w' = g.v) hm hB ⟨⟨w.drew, grown_drew (grown_refl w)⟩, rfl⟩ (by simpa using h)

theorem gr_of {P : Program} {f : FuncId} {args : Array Value} {w : World} {g : Gr w} {v : Value} (h : Calls P f args g.v fun e w' => e = .returned v ∧ g.v.grownBy w' none) : Calls P f args g.v fun e w'' => e = .returned v ∧ ∃ g' : Gr w, w'' = g'.v :=
  h.mono fun _ w' ⟨he, hg⟩ => ⟨he, ⟨w', grown_trans g.h hg⟩, rfl⟩
theorem gr_same {P : Program} {f : FuncId} {args : Array Value} {w : World} {g : Gr w} {v : Value} (h : Calls P f args g.v fun e w' => e = .returned v ∧ w' = g.v) : Calls P f args g.v fun e w'' => e = .returned v ∧ ∃ g' : Gr w, w'' = g'.v :=
  h.mono fun _ _ ⟨he, hg⟩ => ⟨he, g, hg⟩

end Go.Proofs.YtachmkhbbbmioaaGreat

namespace Go.Proofs.YtachmkhbbbmioaaGreat
open Go.RowKit Go.Shelf

def RdyR (S : CS) (x : OpR) (w : World) (e : Ending) (w' : World) : Prop := ∃ b, e = .returned (.bool b) ∧ w.grownBy w' none ∧ (b = true ↔ RdyS S x)

/-- The line's Has, over a state. -/
theorem hasS (sb ma mp lb mb : Nat) (S : CS) (c k : Int) (w : World) (hS : StAt sb ma mp lb mb S w) :
    Calls Tryz.prog 155 #[.pointer (some ⟨lb, 0, none⟩), .agg #[.int .i64 c, .int .i64 k]] w fun e w' => e = .returned (.bool (hasM c k S.L)) ∧ w.grownBy w' none := by
  obtain ⟨E, h1, h2⟩ := hS.ln
  exact has_any lb mb E S.L c k w h1 h2

set_option maxRecDepth 100000 in
set_option maxHeartbeats 8000000 in
theorem ready_any (sb ma mp lb mb : Nat) (S : CS) (hG : Good S) (p : Nat) (hp : p < 8) (num c kind tc tk r : Int) (q : Nat → Int) (hk : kind = 0 ∨ kind = 1) (w : World) (hS : StAt sb ma mp lb mb S w) :
    Calls Tryz.prog 132 #[.pointer (some ⟨sb, 0, none⟩), .agg #[.int .i64 ((p : Int) + 1), .int .i64 num, .int .i64 c, .int .i64 kind, .int .i64 tc, .int .i64 tk, .int .i32 r, .int .i64 (q 0), .int .i64 (q 1), .int .i64 (q 2), .int .i64 (q 3), .int .i64 (q 4), .int .i64 (q 5), .int .i64 (q 6), .int .i64 (q 7)]] w fun e w' => RdyR S ⟨(p : Int) + 1, num, c, kind, tc, tk, r, q⟩ w e w' := by
  have hpn : ((p : Int) + 1).toNat - 1 = p := by omega
  have hclp := hG.cl p hp
  have hwc : IntKind.i64.wrap (S.cl p + 1) = S.cl p + 1 := by rw [IntKind.wrap_i64]; omega
  go_enter Tryz.func132, Tryz.ntmps132
  go_upto_region 1 with fail
  have g1 : w.grownBy (w.alloc (.cells #[.int .i64 ((p : Int) + 1), .int .i64 num, .int .i64 c, .int .i64 kind, .int .i64 tc, .int .i64 tk, .int .i32 r, .int .i64 (q 0), .int .i64 (q 1), .int .i64 (q 2), .int .i64 (q 3), .int .i64 (q 4), .int .i64 (q 5), .int .i64 (q 6), .int .i64 (q 7)] 154)) none := grown_alloc (grown_refl _) _
  have kb : (w.alloc (.cells #[.int .i64 ((p : Int) + 1), .int .i64 num, .int .i64 c, .int .i64 kind, .int .i64 tc, .int .i64 tk, .int .i32 r, .int .i64 (q 0), .int .i64 (q 1), .int .i64 (q 2), .int .i64 (q 3), .int .i64 (q 4), .int .i64 (q 5), .int .i64 (q 6), .int .i64 (q 7)] 154)).heap[w.heap.size]? = some (.cells #[.int .i64 ((p : Int) + 1), .int .i64 num, .int .i64 c, .int .i64 kind, .int .i64 tc, .int .i64 tk, .int .i32 r, .int .i64 (q 0), .int .i64 (q 1), .int .i64 (q 2), .int .i64 (q 3), .int .i64 (q 4), .int .i64 (q 5), .int .i64 (q 6), .int .i64 (q 7)] 154) := by rw [heap_alloc_at]; simp
  generalize (w.alloc (.cells #[.int .i64 ((p : Int) + 1), .int .i64 num, .int .i64 c, .int .i64 kind, .int .i64 tc, .int .i64 tk, .int .i32 r, .int .i64 (q 0), .int .i64 (q 1), .int .i64 (q 2), .int .i64 (q 3), .int .i64 (q 4), .int .i64 (q 5), .int .i64 (q 6), .int .i64 (q 7)] 154)) = w1 at g1 kb ⊢
  have hS1 := hS.grown g1
  generalize w.heap.size = bb at kb ⊢
  have hO := hide (fun g : Gr w1 => of_any sb 2 ((p : Int) + 1) (by omega) (by omega) (S.cl p) g.v (by rw [hpn]; exact (hS1.grown g.h).clock p hp))
  have hC := hide (fun g : Gr w1 => covers_any sb S.cl q g.v (fun i hi => (hS1.grown g.h).clock i hi))
  have d0 := Gr.cell (show w1.cell? ⟨bb, 0, none⟩ = some (.int .i64 ((p : Int) + 1)) from cell_blk kb 0)
  have d1 := Gr.cell (show w1.cell? ⟨bb, 1, none⟩ = some (.int .i64 num) from cell_blk kb 1)
  have d2 := Gr.cell (show w1.cell? ⟨bb, 2, none⟩ = some (.int .i64 c) from cell_blk kb 2)
  have d3 := Gr.cell (show w1.cell? ⟨bb, 3, none⟩ = some (.int .i64 kind) from cell_blk kb 3)
  have d4 := Gr.cell (show w1.cell? ⟨bb, 4, none⟩ = some (.int .i64 tc) from cell_blk kb 4)
  have d5 := Gr.cell (show w1.cell? ⟨bb, 5, none⟩ = some (.int .i64 tk) from cell_blk kb 5)
  have d6 := Gr.cell (show w1.cell? ⟨bb, 6, none⟩ = some (.int .i32 r) from cell_blk kb 6)
  have d7 := Gr.cell (show w1.cell? ⟨bb, 7, none⟩ = some (.int .i64 (q 0)) from cell_blk kb 7)
  have d8 := Gr.cell (show w1.cell? ⟨bb, 8, none⟩ = some (.int .i64 (q 1)) from cell_blk kb 8)
  have d9 := Gr.cell (show w1.cell? ⟨bb, 9, none⟩ = some (.int .i64 (q 2)) from cell_blk kb 9)
  have d10 := Gr.cell (show w1.cell? ⟨bb, 10, none⟩ = some (.int .i64 (q 3)) from cell_blk kb 10)
  have d11 := Gr.cell (show w1.cell? ⟨bb, 11, none⟩ = some (.int .i64 (q 4)) from cell_blk kb 11)
  have d12 := Gr.cell (show w1.cell? ⟨bb, 12, none⟩ = some (.int .i64 (q 5)) from cell_blk kb 12)
  have d13 := Gr.cell (show w1.cell? ⟨bb, 13, none⟩ = some (.int .i64 (q 6)) from cell_blk kb 13)
  have d14 := Gr.cell (show w1.cell? ⟨bb, 14, none⟩ = some (.int .i64 (q 7)) from cell_blk kb 14)
  have s13 := Gr.cell (show w1.cell? ⟨sb, 13, none⟩ = some (.pointer (some ⟨lb, 0, none⟩)) from cell_blk hS1.st 13)
  have hH1 := hide (fun g : Gr w1 => hasS sb ma mp lb mb S tc tk g.v (hS1.grown g.h))
  have hH2 := hide (fun g : Gr w1 => hasS sb ma mp lb mb S c ((p : Int) + 1) g.v (hS1.grown g.h))
  have hM := hide (fun g : Gr w1 => opMark_any ((p : Int) + 1) num c kind tc tk r q g.v)
  unfold opArr at hM
  clear kb hS hS1
  by_cases hnum : num = S.cl p + 1
  · have hnb : (num == S.cl p + 1) = true := by simp [hnum]
    have HI : Hid (RdyS S ⟨(p : Int) + 1, num, c, kind, tc, tk, r, q⟩ ↔ (∀ i, i < 8 → q i ≤ S.cl i) ∧ hasM tc tk S.L = true ∧ (kind = 1 ∨ hasM c ((p : Int) + 1) S.L = false)) := hide (by unfold RdyS; simp only [hpn]; exact ⟨fun z => z.2, fun z => ⟨hnum, z⟩⟩)
    clear hnum
    by_cases hq : ∀ i, i < 8 → q i ≤ S.cl i
    · have HI2 : Hid (RdyS S ⟨(p : Int) + 1, num, c, kind, tc, tk, r, q⟩ ↔ hasM tc tk S.L = true ∧ (kind = 1 ∨ hasM c ((p : Int) + 1) S.L = false)) := hide (HI.out.trans ⟨fun z => z.2, fun z => ⟨hq, z⟩⟩)
      have hC1 : Hid (∀ g : Gr w1, Calls Tryz.prog 154 #[.pointer (some ⟨sb, 2, none⟩), .agg #[.int .i64 (q 0), .int .i64 (q 1), .int .i64 (q 2), .int .i64 (q 3), .int .i64 (q 4), .int .i64 (q 5), .int .i64 (q 6), .int .i64 (q 7)]] g.v fun e w' => e = .returned (.bool true) ∧ g.v.grownBy w' none) := hide (fun g => (hC.out g).mono (by rintro e w' ⟨b, rfl, g, hb⟩; exact ⟨by rw [hb.2 hq], g⟩))
      clear HI hq hC
      by_cases hm : hasM tc tk S.L = true
      · rw [hm] at hH1 HI2
        rcases hk with rfl | rfl
        · have HI3 : Hid (RdyS S ⟨(p : Int) + 1, num, c, 0, tc, tk, r, q⟩ ↔ hasM c ((p : Int) + 1) S.L = false) := hide (HI2.out.trans (by simp))
          clear HI2 hm
          generalize hasM c ((p : Int) + 1) S.L = bm at hH2 HI3
          go_wp2_with fail
          refine region_gr (by kernel_rfl) (by kernel_rfl) ?_
          repeat (go_big_quiet_step ((first | (go_at_call 130; with_reducible exact gr_same (hO.out _)) | (go_at_call 154; with_reducible exact gr_of (hC1.out _)) | (go_at_call 155; with_reducible exact gr_of (hH1.out _)) | (go_at_call 156; with_reducible exact gr_of (hM.out _)) | (go_at_call 155; with_reducible exact gr_of (hH2.out _)))))
          refine wpQuiet_nil ?_
          rintro _ ⟨⟨w2, g2⟩, rfl⟩
          go_wp2_with fail
          exact bodyPost_ret (v := .bool (!bm)) (by simp [results, Tryz.results132, go_sem]) rfl ⟨!bm, rfl, grown_trans g1 g2, by rw [HI3.out]; simp⟩
        · have HI3 : Hid (RdyS S ⟨(p : Int) + 1, num, c, 1, tc, tk, r, q⟩) := hide (HI2.out.2 (by simp))
          clear HI2 hm
          go_wp2_with fail
          refine region_gr (by kernel_rfl) (by kernel_rfl) ?_
          repeat (go_big_quiet_step ((first | (go_at_call 130; with_reducible exact gr_same (hO.out _)) | (go_at_call 154; with_reducible exact gr_of (hC1.out _)) | (go_at_call 155; with_reducible exact gr_of (hH1.out _)) | (go_at_call 156; with_reducible exact gr_of (hM.out _)) | (go_at_call 155; with_reducible exact gr_of (hH2.out _)))))
          refine wpQuiet_nil ?_
          rintro _ ⟨⟨w2, g2⟩, rfl⟩
          go_wp2_with fail
          exact bodyPost_ret (v := .bool (true)) (by simp [results, Tryz.results132, go_sem]) rfl ⟨true, rfl, grown_trans g1 g2, by simpa using HI3.out⟩
      · have hm' : hasM tc tk S.L = false := by simpa using hm
        have HN : Hid (¬ RdyS S ⟨(p : Int) + 1, num, c, kind, tc, tk, r, q⟩) := hide (fun z => by rw [HI2.out] at z; exact hm z.1)
        rw [hm'] at hH1
        clear HI2 hm hm'
        go_wp2_with fail
        refine region_gr (by kernel_rfl) (by kernel_rfl) ?_
        repeat (go_big_quiet_step ((first | (go_at_call 130; with_reducible exact gr_same (hO.out _)) | (go_at_call 154; with_reducible exact gr_of (hC1.out _)) | (go_at_call 155; with_reducible exact gr_of (hH1.out _)) | (go_at_call 156; with_reducible exact gr_of (hM.out _)) | (go_at_call 155; with_reducible exact gr_of (hH2.out _)))))
        refine wpQuiet_nil ?_
        rintro _ ⟨⟨w2, g2⟩, rfl⟩
        go_wp2_with fail
        exact bodyPost_ret (v := .bool (false)) (by simp [results, Tryz.results132, go_sem]) rfl ⟨false, rfl, grown_trans g1 g2, by simpa using HN.out⟩
    · have HN : Hid (¬ RdyS S ⟨(p : Int) + 1, num, c, kind, tc, tk, r, q⟩) := hide (fun z => by rw [HI.out] at z; exact hq z.1)
      have hC1 : Hid (∀ g : Gr w1, Calls Tryz.prog 154 #[.pointer (some ⟨sb, 2, none⟩), .agg #[.int .i64 (q 0), .int .i64 (q 1), .int .i64 (q 2), .int .i64 (q 3), .int .i64 (q 4), .int .i64 (q 5), .int .i64 (q 6), .int .i64 (q 7)]] g.v fun e w' => e = .returned (.bool false) ∧ g.v.grownBy w' none) := hide (fun g => (hC.out g).mono (by rintro e w' ⟨b, rfl, g, hb⟩; refine ⟨?_, g⟩; cases b; rfl; exact (hq (hb.1 rfl)).elim))
      clear HI hq hC
      go_wp2_with fail
      refine region_gr (by kernel_rfl) (by kernel_rfl) ?_
      repeat (go_big_quiet_step ((first | (go_at_call 130; with_reducible exact gr_same (hO.out _)) | (go_at_call 154; with_reducible exact gr_of (hC1.out _)) | (go_at_call 155; with_reducible exact gr_of (hH1.out _)) | (go_at_call 156; with_reducible exact gr_of (hM.out _)) | (go_at_call 155; with_reducible exact gr_of (hH2.out _)))))
      refine wpQuiet_nil ?_
      rintro _ ⟨⟨w2, g2⟩, rfl⟩
      go_wp2_with fail
      exact bodyPost_ret (v := .bool (false)) (by simp [results, Tryz.results132, go_sem]) rfl ⟨false, rfl, grown_trans g1 g2, by simpa using HN.out⟩
  · have hnb : (num == S.cl p + 1) = false := by simp [hnum]
    have HN : Hid (¬ RdyS S ⟨(p : Int) + 1, num, c, kind, tc, tk, r, q⟩) := hide (fun z => hnum (by have := z.1; simp only [hpn] at this; exact this))
    clear hnum
    go_wp2_with fail
    refine region_gr (by kernel_rfl) (by kernel_rfl) ?_
    repeat (go_big_quiet_step ((first | (go_at_call 130; with_reducible exact gr_same (hO.out _)) | (go_at_call 155; with_reducible exact gr_of (hH1.out _)) | (go_at_call 156; with_reducible exact gr_of (hM.out _)) | (go_at_call 155; with_reducible exact gr_of (hH2.out _)))))
    refine wpQuiet_nil ?_
    rintro _ ⟨⟨w2, g2⟩, rfl⟩
    go_wp2_with fail
    exact bodyPost_ret (v := .bool (false)) (by simp [results, Tryz.results132, go_sem]) rfl ⟨false, rfl, grown_trans g1 g2, by simpa using HN.out⟩

end Go.Proofs.YtachmkhbbbmioaaGreat

namespace Go.Proofs.YtachmkhbbbmioaaGreat
open Go.RowKit Go.Shelf
attribute [local go_sem ↓] Go.wp_at_zero Go.wp_at_succ
attribute [local simp] entsAt_drew entsAt_setCell entsAt_alloc

/-- What a look into what waits gives. -/
theorem lookPen {E : List Ent} {wt : List OpR} (hp : PenIs E wt) (b : Nat) (o num : Int) : ∃ (y : OpR) (f : Bool), (∀ w', entsAt w' b E → (Instr.lookup 135 (.map (some b)) (.agg #[.int .i64 o, .int .i64 num]) true).run Tryz.prog w' = .ok (.tuple #[.agg #[.int .i64 y.o, .int .i64 y.num, .int .i64 y.c, .int .i64 y.kind, .int .i64 y.tc, .int .i64 y.tk, .int .i32 y.r, .int .i64 (y.q 0), .int .i64 (y.q 1), .int .i64 (y.q 2), .int .i64 (y.q 3), .int .i64 (y.q 4), .int .i64 (y.q 5), .int .i64 (y.q 6), .int .i64 (y.q 7)], .bool f]) w') ∧
    (f = true → y ∈ wt ∧ y.o = o ∧ y.num = num) ∧ (f = false → ∀ z ∈ wt, ¬ (z.o = o ∧ z.num = num)) := by
  have hl := fun w' (h : entsAt w' b E) => run_lookup_ok keyName (fun w => Tryz.zeroValue154 w) h o num
  cases hf : wt.find? (fun x => x.o == o && x.num == num) with
  | none =>
    have e : look o num E = none := by rw [hp.app, hf]; rfl
    rw [e] at hl
    refine ⟨⟨0, 0, 0, 0, 0, 0, 0, fun _ => 0⟩, false, hl, fun q => (by cases q), fun _ z hz q => ?_⟩
    have := List.find?_eq_none.1 hf z hz
    simp [q.1, q.2] at this
  | some y =>
    have e : look o num E = some (.agg y.arr) := by rw [hp.app, hf]; rfl
    rw [e] at hl
    have h1 := List.find?_some hf
    simp only [Bool.and_eq_true, beq_iff_eq] at h1
    exact ⟨y, true, hl, fun _ => ⟨List.mem_of_find?_eq_some hf, h1⟩, fun q => by cases q⟩

def KnR (S : CS) (p : Nat) (num : Int) (w : World) (e : Ending) (w' : World) : Prop := ∃ b, e = .returned (.bool b) ∧ w.grownBy w' none ∧ (b = true ↔ (∃ y ∈ S.wt, y.o = (p : Int) + 1 ∧ y.num = num) ∨ num ≤ S.cl p)

set_option maxRecDepth 100000 in
set_option maxHeartbeats 4000000 in
theorem knows_any (sb ma mp lb mb : Nat) (S : CS) (p : Nat) (hp : p < 8) (num : Int) (w : World) (hS : StAt sb ma mp lb mb S w) :
    Calls Tryz.prog 131 #[.pointer (some ⟨sb, 0, none⟩), .agg #[.int .i64 ((p : Int) + 1), .int .i64 num]] w fun e w' => KnR S p num w e w' := by
  have hpn : ((p : Int) + 1).toNat - 1 = p := by omega
  obtain ⟨EP, hEP, hPI⟩ := hS.pen
  obtain ⟨y, f, hlk, hf1, hf2⟩ := lookPen hPI mp ((p : Int) + 1) num
  have HF : Hid ((f = true → y ∈ S.wt ∧ y.o = (p : Int) + 1 ∧ y.num = num) ∧ (f = false → ∀ z ∈ S.wt, ¬ (z.o = (p : Int) + 1 ∧ z.num = num))) := hide ⟨hf1, hf2⟩
  clear hf1 hf2 hPI
  go_enter Tryz.func131, Tryz.ntmps131
  go_wp2_with fail
  have g1 : w.grownBy (w.alloc (.cells #[.int .i64 ((p : Int) + 1), .int .i64 num] 149)) none := grown_alloc (grown_refl _) _
  have k3 : (w.alloc (.cells #[.int .i64 ((p : Int) + 1), .int .i64 num] 149)).heap[w.heap.size]? = some (.cells #[.int .i64 ((p : Int) + 1), .int .i64 num] 149) := by rw [heap_alloc_at]; simp
  have c4 : entsAt (w.alloc (.cells #[.int .i64 ((p : Int) + 1), .int .i64 num] 149)) mp EP := entsAt_alloc hEP
  generalize (w.alloc (.cells #[.int .i64 ((p : Int) + 1), .int .i64 num] 149)) = w1 at g1 k3 c4 ⊢
  have hS1 := hS.grown g1
  have c3 : w1.cell? ⟨sb, 12, none⟩ = some (.map (some mp)) := cell_blk hS1.st 12
  have c5 : w1.cell? ⟨w.heap.size, 0, none⟩ = some (.int .i64 ((p : Int) + 1)) := cell_blk k3 0
  have c6 : w1.cell? ⟨w.heap.size, 1, none⟩ = some (.int .i64 num) := cell_blk k3 1
  have n1 := World.new_ne w1 _ c3
  have n2 := World.new_ne w1 _ c5
  clear hEP
  go_cut [5, 6] (fun _ s6 wx => s6 = .bool f ∧ w1.grownBy wx none)
  case first =>
    go_region_held3 (fun w' => w'.cell? ⟨sb, 12, none⟩ = some (.map (some mp)) ∧ entsAt w' mp EP ∧ w'.cell? ⟨w.heap.size, 0, none⟩ = some (.int .i64 ((p : Int) + 1)) ∧ w'.cell? ⟨w.heap.size, 1, none⟩ = some (.int .i64 num)) (go_keep) (fail)
    all_goals (go_wp2_with fail; go_meet)
    all_goals exact ⟨rfl, by repeat (first | exact grown_refl _ | refine grown_drew ?_ | refine grown_alloc ?_ _)⟩
  case rest =>
  obtain ⟨rfl, g2⟩ := hcut
  clear c3 c4 c5 c6 n1 n2 hlk
  have hS2 := hS1.grown g2
  have k4 := (g2.block _ (lt_of_heap k3) (by simp)).trans k3
  generalize w.heap.size = bb at k3 k4 ⊢
  have d0 := Gr.cell (show wc.cell? ⟨bb, 0, none⟩ = some (.int .i64 ((p : Int) + 1)) from cell_blk k4 0)
  have d1 := Gr.cell (show wc.cell? ⟨bb, 1, none⟩ = some (.int .i64 num) from cell_blk k4 1)
  have hO := hide (fun g : Gr wc => of_any sb 2 ((p : Int) + 1) (by omega) (by omega) (S.cl p) g.v (by rw [hpn]; exact (hS2.grown g.h).clock p hp))
  clear k3 k4 hS hS1 hS2
  cases f with
  | true =>
    have HY : Hid (∃ y ∈ S.wt, y.o = (p : Int) + 1 ∧ y.num = num) := hide ⟨y, HF.out.1 rfl⟩
    go_wp2_with fail
    refine region_gr (by kernel_rfl) (by kernel_rfl) ?_
    repeat (go_big_quiet_step (fail))
    refine wpQuiet_nil ?_
    rintro _ ⟨⟨w3, g3⟩, rfl⟩
    go_wp2_with fail
    exact bodyPost_ret (v := .bool true) (by simp [results, Tryz.results131, go_sem]) rfl ⟨true, rfl, grown_trans g1 (grown_trans g2 g3), by simp [HY.out]⟩
  | false =>
    have HY : Hid (¬ ∃ y ∈ S.wt, y.o = (p : Int) + 1 ∧ y.num = num) := hide (fun ⟨z, hz, q⟩ => HF.out.2 rfl z hz q)
    go_wp2_with fail
    refine region_gr (by kernel_rfl) (by kernel_rfl) ?_
    repeat (go_big_quiet_step ((go_at_call 130; with_reducible exact gr_same (hO.out _))))
    refine wpQuiet_nil ?_
    rintro _ ⟨⟨w3, g3⟩, rfl⟩
    go_wp2_with fail
    exact bodyPost_ret (v := .bool (decide (num ≤ S.cl p))) (by simp [results, Tryz.results131, go_sem]) rfl ⟨decide (num ≤ S.cl p), rfl, grown_trans g1 (grown_trans g2 g3), by rw [decide_eq_true_eq]; exact ⟨.inr, fun q => q.resolve_left HY.out⟩⟩

/-- apply, of any operation that is ready. -/
theorem apply_any (sb ma mp lb mb : Nat) (S : CS) (hI : Inv S) (x : OpR) (h8 : Ok8 S.n x) (hr : RdyS S x) (w : World) (hS : StAt sb ma mp lb mb S w) :
    Calls Tryz.prog 133 #[.pointer (some ⟨sb, 0, none⟩), .agg x.arr] w fun e w' => e = .returned (.tuple #[]) ∧ StAt sb ma mp lb mb (applyS S x) w' ∧ Fr (own3 sb ma mb) w w' := by
  have ho := h8.o
  have hn8 := hI.good.n8
  have hc := h8.c
  have hcl := hI.good.cl (x.o.toNat - 1) (by omega)
  have h0 : ∀ y ∈ S.L, 0 < y.c := fun y hy => (hI.good.mark y hy).1
  have eo : ((x.o.toNat : Nat) : Int) = x.o := by omega
  rcases (show x.kind = 0 ∨ x.kind = 1 by have := h8.kind; omega) with hk | hk
  · obtain ⟨A, R, hs, hL, e1, e2, e3, -⟩ := cut_ins h8 hk hr.2.2.1 h0 hI.apart
    have hf : fresh (x.el hs) (A ++ R) := by
      rcases hr.2.2.2 with q | q
      · omega
      · obtain ⟨q1, q2⟩ := hasM_false.1 q
        exact ⟨q1, by rw [← hL]; exact q2⟩
    have H := apply_ins sb ma mp lb mb S x.num x.c x.o.toNat x.q A R (x.el hs) w hS (by omega) (by omega) hcl.1 (by omega) hL rfl eo.symm hf rfl (by show 0 < x.c; omega)
    rw [eo, e1, e2, ← e3, ← hk] at H
    exact H
  · obtain ⟨A, R, y, hL, e1, e2, e3, -⟩ := cut_del h8 hk hr.2.2.1 hI.apart
    have H := apply_del sb ma mp lb mb S x.num x.c x.o.toNat x.q A R y w hS (by omega) (by omega) hcl.1 (by omega) hL
    have hr0 : (0 : Int) = x.r := (h8.r1 hk).symm
    rw [eo, e1, e2, ← e3, ← hk, hr0] at H
    exact H

end Go.Proofs.YtachmkhbbbmioaaGreat

namespace Go.Proofs.YtachmkhbbbmioaaGreat
open Go.RowKit Go.Shelf
attribute [local go_sem ↓] Go.wp_at_zero Go.wp_at_succ
attribute [local simp] entsAt_drew entsAt_setCell entsAt_alloc

theorem set15 {w : World} {b : Nat} {T : TypeId} {a0 a1 a2 a3 a4 a5 a6 a7 a8 a9 a10 a11 a12 a13 a14 : Value} (h : w.heap[b]? = some (.cells #[a0, a1, a2, a3, a4, a5, a6, a7, a8, a9, a10, a11, a12, a13, a14] T)) (v0 v1 v2 v3 v4 v5 v6 v7 v8 v9 v10 v11 v12 v13 v14 : Value) : ((((((((((((((((w.setCell ⟨b, 0, none⟩ v0).setCell ⟨b, 1, none⟩ v1).setCell ⟨b, 2, none⟩ v2).setCell ⟨b, 3, none⟩ v3).setCell ⟨b, 4, none⟩ v4).setCell ⟨b, 5, none⟩ v5).setCell ⟨b, 6, none⟩ v6).setCell ⟨b, 7, none⟩ v7).setCell ⟨b, 8, none⟩ v8).setCell ⟨b, 9, none⟩ v9).setCell ⟨b, 10, none⟩ v10).setCell ⟨b, 11, none⟩ v11).setCell ⟨b, 12, none⟩ v12).setCell ⟨b, 13, none⟩ v13).setCell ⟨b, 14, none⟩ v14)).heap[b]? = some (.cells #[v0, v1, v2, v3, v4, v5, v6, v7, v8, v9, v10, v11, v12, v13, v14] T) := by
  have h0 : (w.setCell ⟨b, 0, none⟩ v0).heap[b]? = some (.cells #[v0, a1, a2, a3, a4, a5, a6, a7, a8, a9, a10, a11, a12, a13, a14] T) := (set_blk h).trans rfl
  have h1 : ((w.setCell ⟨b, 0, none⟩ v0).setCell ⟨b, 1, none⟩ v1).heap[b]? = some (.cells #[v0, v1, a2, a3, a4, a5, a6, a7, a8, a9, a10, a11, a12, a13, a14] T) := (set_blk h0).trans rfl
  have h2 : (((w.setCell ⟨b, 0, none⟩ v0).setCell ⟨b, 1, none⟩ v1).setCell ⟨b, 2, none⟩ v2).heap[b]? = some (.cells #[v0, v1, v2, a3, a4, a5, a6, a7, a8, a9, a10, a11, a12, a13, a14] T) := (set_blk h1).trans rfl
  have h3 : ((((w.setCell ⟨b, 0, none⟩ v0).setCell ⟨b, 1, none⟩ v1).setCell ⟨b, 2, none⟩ v2).setCell ⟨b, 3, none⟩ v3).heap[b]? = some (.cells #[v0, v1, v2, v3, a4, a5, a6, a7, a8, a9, a10, a11, a12, a13, a14] T) := (set_blk h2).trans rfl
  have h4 : (((((w.setCell ⟨b, 0, none⟩ v0).setCell ⟨b, 1, none⟩ v1).setCell ⟨b, 2, none⟩ v2).setCell ⟨b, 3, none⟩ v3).setCell ⟨b, 4, none⟩ v4).heap[b]? = some (.cells #[v0, v1, v2, v3, v4, a5, a6, a7, a8, a9, a10, a11, a12, a13, a14] T) := (set_blk h3).trans rfl
  have h5 : ((((((w.setCell ⟨b, 0, none⟩ v0).setCell ⟨b, 1, none⟩ v1).setCell ⟨b, 2, none⟩ v2).setCell ⟨b, 3, none⟩ v3).setCell ⟨b, 4, none⟩ v4).setCell ⟨b, 5, none⟩ v5).heap[b]? = some (.cells #[v0, v1, v2, v3, v4, v5, a6, a7, a8, a9, a10, a11, a12, a13, a14] T) := (set_blk h4).trans rfl
  have h6 : (((((((w.setCell ⟨b, 0, none⟩ v0).setCell ⟨b, 1, none⟩ v1).setCell ⟨b, 2, none⟩ v2).setCell ⟨b, 3, none⟩ v3).setCell ⟨b, 4, none⟩ v4).setCell ⟨b, 5, none⟩ v5).setCell ⟨b, 6, none⟩ v6).heap[b]? = some (.cells #[v0, v1, v2, v3, v4, v5, v6, a7, a8, a9, a10, a11, a12, a13, a14] T) := (set_blk h5).trans rfl
  have h7 : ((((((((w.setCell ⟨b, 0, none⟩ v0).setCell ⟨b, 1, none⟩ v1).setCell ⟨b, 2, none⟩ v2).setCell ⟨b, 3, none⟩ v3).setCell ⟨b, 4, none⟩ v4).setCell ⟨b, 5, none⟩ v5).setCell ⟨b, 6, none⟩ v6).setCell ⟨b, 7, none⟩ v7).heap[b]? = some (.cells #[v0, v1, v2, v3, v4, v5, v6, v7, a8, a9, a10, a11, a12, a13, a14] T) := (set_blk h6).trans rfl
  have h8 : (((((((((w.setCell ⟨b, 0, none⟩ v0).setCell ⟨b, 1, none⟩ v1).setCell ⟨b, 2, none⟩ v2).setCell ⟨b, 3, none⟩ v3).setCell ⟨b, 4, none⟩ v4).setCell ⟨b, 5, none⟩ v5).setCell ⟨b, 6, none⟩ v6).setCell ⟨b, 7, none⟩ v7).setCell ⟨b, 8, none⟩ v8).heap[b]? = some (.cells #[v0, v1, v2, v3, v4, v5, v6, v7, v8, a9, a10, a11, a12, a13, a14] T) := (set_blk h7).trans rfl
  have h9 : ((((((((((w.setCell ⟨b, 0, none⟩ v0).setCell ⟨b, 1, none⟩ v1).setCell ⟨b, 2, none⟩ v2).setCell ⟨b, 3, none⟩ v3).setCell ⟨b, 4, none⟩ v4).setCell ⟨b, 5, none⟩ v5).setCell ⟨b, 6, none⟩ v6).setCell ⟨b, 7, none⟩ v7).setCell ⟨b, 8, none⟩ v8).setCell ⟨b, 9, none⟩ v9).heap[b]? = some (.cells #[v0, v1, v2, v3, v4, v5, v6, v7, v8, v9, a10, a11, a12, a13, a14] T) := (set_blk h8).trans rfl
  have h10 : (((((((((((w.setCell ⟨b, 0, none⟩ v0).setCell ⟨b, 1, none⟩ v1).setCell ⟨b, 2, none⟩ v2).setCell ⟨b, 3, none⟩ v3).setCell ⟨b, 4, none⟩ v4).setCell ⟨b, 5, none⟩ v5).setCell ⟨b, 6, none⟩ v6).setCell ⟨b, 7, none⟩ v7).setCell ⟨b, 8, none⟩ v8).setCell ⟨b, 9, none⟩ v9).setCell ⟨b, 10, none⟩ v10).heap[b]? = some (.cells #[v0, v1, v2, v3, v4, v5, v6, v7, v8, v9, v10, a11, a12, a13, a14] T) := (set_blk h9).trans rfl
  have h11 : ((((((((((((w.setCell ⟨b, 0, none⟩ v0).setCell ⟨b, 1, none⟩ v1).setCell ⟨b, 2, none⟩ v2).setCell ⟨b, 3, none⟩ v3).setCell ⟨b, 4, none⟩ v4).setCell ⟨b, 5, none⟩ v5).setCell ⟨b, 6, none⟩ v6).setCell ⟨b, 7, none⟩ v7).setCell ⟨b, 8, none⟩ v8).setCell ⟨b, 9, none⟩ v9).setCell ⟨b, 10, none⟩ v10).setCell ⟨b, 11, none⟩ v11).heap[b]? = some (.cells #[v0, v1, v2, v3, v4, v5, v6, v7, v8, v9, v10, v11, a12, a13, a14] T) := (set_blk h10).trans rfl
  have h12 : (((((((((((((w.setCell ⟨b, 0, none⟩ v0).setCell ⟨b, 1, none⟩ v1).setCell ⟨b, 2, none⟩ v2).setCell ⟨b, 3, none⟩ v3).setCell ⟨b, 4, none⟩ v4).setCell ⟨b, 5, none⟩ v5).setCell ⟨b, 6, none⟩ v6).setCell ⟨b, 7, none⟩ v7).setCell ⟨b, 8, none⟩ v8).setCell ⟨b, 9, none⟩ v9).setCell ⟨b, 10, none⟩ v10).setCell ⟨b, 11, none⟩ v11).setCell ⟨b, 12, none⟩ v12).heap[b]? = some (.cells #[v0, v1, v2, v3, v4, v5, v6, v7, v8, v9, v10, v11, v12, a13, a14] T) := (set_blk h11).trans rfl
  have h13 : ((((((((((((((w.setCell ⟨b, 0, none⟩ v0).setCell ⟨b, 1, none⟩ v1).setCell ⟨b, 2, none⟩ v2).setCell ⟨b, 3, none⟩ v3).setCell ⟨b, 4, none⟩ v4).setCell ⟨b, 5, none⟩ v5).setCell ⟨b, 6, none⟩ v6).setCell ⟨b, 7, none⟩ v7).setCell ⟨b, 8, none⟩ v8).setCell ⟨b, 9, none⟩ v9).setCell ⟨b, 10, none⟩ v10).setCell ⟨b, 11, none⟩ v11).setCell ⟨b, 12, none⟩ v12).setCell ⟨b, 13, none⟩ v13).heap[b]? = some (.cells #[v0, v1, v2, v3, v4, v5, v6, v7, v8, v9, v10, v11, v12, v13, a14] T) := (set_blk h12).trans rfl
  have h14 : (((((((((((((((w.setCell ⟨b, 0, none⟩ v0).setCell ⟨b, 1, none⟩ v1).setCell ⟨b, 2, none⟩ v2).setCell ⟨b, 3, none⟩ v3).setCell ⟨b, 4, none⟩ v4).setCell ⟨b, 5, none⟩ v5).setCell ⟨b, 6, none⟩ v6).setCell ⟨b, 7, none⟩ v7).setCell ⟨b, 8, none⟩ v8).setCell ⟨b, 9, none⟩ v9).setCell ⟨b, 10, none⟩ v10).setCell ⟨b, 11, none⟩ v11).setCell ⟨b, 12, none⟩ v12).setCell ⟨b, 13, none⟩ v13).setCell ⟨b, 14, none⟩ v14).heap[b]? = some (.cells #[v0, v1, v2, v3, v4, v5, v6, v7, v8, v9, v10, v11, v12, v13, v14] T) := (set_blk h13).trans rfl
  exact h14

/-- ready, at an operation whose bounds are known. -/
theorem ready_op (sb ma mp lb mb : Nat) (S : CS) (hG : Good S) (y : OpR) (h8 : Ok8 S.n y) (w : World) (hS : StAt sb ma mp lb mb S w) :
    Calls Tryz.prog 132 #[.pointer (some ⟨sb, 0, none⟩), .agg #[.int .i64 y.o, .int .i64 y.num, .int .i64 y.c, .int .i64 y.kind, .int .i64 y.tc, .int .i64 y.tk, .int .i32 y.r, .int .i64 (y.q 0), .int .i64 (y.q 1), .int .i64 (y.q 2), .int .i64 (y.q 3), .int .i64 (y.q 4), .int .i64 (y.q 5), .int .i64 (y.q 6), .int .i64 (y.q 7)]] w fun e w' => RdyR S y w e w' := by
  have ho := h8.o
  have hn8 := hG.n8
  have H := ready_any sb ma mp lb mb S hG (y.o.toNat - 1) (by omega) y.num y.c y.kind y.tc y.tk y.r y.q (by have := h8.kind; omega) w hS
  have e : ((y.o.toNat - 1 : Nat) : Int) + 1 = y.o := by omega
  rw [e] at H
  exact H

def FirR (S : CS) (w : World) (e : Ending) (w' : World) : Prop := ∃ (y : OpR) (f : Bool), e = .returned (.tuple #[.agg #[.int .i64 y.o, .int .i64 y.num, .int .i64 y.c, .int .i64 y.kind, .int .i64 y.tc, .int .i64 y.tk, .int .i32 y.r, .int .i64 (y.q 0), .int .i64 (y.q 1), .int .i64 (y.q 2), .int .i64 (y.q 3), .int .i64 (y.q 4), .int .i64 (y.q 5), .int .i64 (y.q 6), .int .i64 (y.q 7)], .bool f]) ∧ w.grownBy w' none ∧ (f = true → IsNext S y) ∧ (f = false → NoNext S)

set_option maxRecDepth 100000 in
set_option maxHeartbeats 8000000 in
theorem first_any (sb ma mp lb mb : Nat) (S : CS) (hI : Inv S) (w : World) (hS : StAt sb ma mp lb mb S w) :
    Calls Tryz.prog 160 #[.pointer (some ⟨sb, 0, none⟩)] w fun e w' => FirR S w e w' := by
  have hG := hI.good
  have hn8 := hG.n8
  go_enter Tryz.func160, Tryz.ntmps160
  go_wp2_with fail
  have g1 : w.grownBy (w.alloc (.cells #[.int .i64 0, .int .i64 0, .int .i64 0, .int .i64 0, .int .i64 0, .int .i64 0, .int .i32 0, .int .i64 0, .int .i64 0, .int .i64 0, .int .i64 0, .int .i64 0, .int .i64 0, .int .i64 0, .int .i64 0] 154)) none := grown_alloc (grown_refl _) _
  have k1 : (w.alloc (.cells #[.int .i64 0, .int .i64 0, .int .i64 0, .int .i64 0, .int .i64 0, .int .i64 0, .int .i32 0, .int .i64 0, .int .i64 0, .int .i64 0, .int .i64 0, .int .i64 0, .int .i64 0, .int .i64 0, .int .i64 0] 154)).heap[w.heap.size]? = some (.cells #[.int .i64 0, .int .i64 0, .int .i64 0, .int .i64 0, .int .i64 0, .int .i64 0, .int .i32 0, .int .i64 0, .int .i64 0, .int .i64 0, .int .i64 0, .int .i64 0, .int .i64 0, .int .i64 0, .int .i64 0] 154) := by rw [heap_alloc_at]; simp
  generalize (w.alloc (.cells #[.int .i64 0, .int .i64 0, .int .i64 0, .int .i64 0, .int .i64 0, .int .i64 0, .int .i32 0, .int .i64 0, .int .i64 0, .int .i64 0, .int .i64 0, .int .i64 0, .int .i64 0, .int .i64 0, .int .i64 0] 154)) = w1 at g1 k1 ⊢
  have hS1 := hS.grown g1
  obtain ⟨bb, hbb⟩ : ∃ bb, w.heap.size = bb := ⟨_, rfl⟩
  rw [hbb] at k1 ⊢
  go_loopg [4] S.n (fun gk s4 wr => ∃ i : Nat, s4 = .int .i64 ((i : Int) + 1) ∧ i ≤ S.n ∧ gk = S.n - i ∧ w1.grownBy wr none ∧ Hid (∀ z ∈ S.wt, RdyS S z → (i : Int) < z.o))
  case atStart => exact ⟨0, rfl, by omega, rfl, grown_refl _, hide (fun z hz _ => by have := (hI.wo.ok z hz).o.1; omega)⟩
  case round =>
    obtain ⟨i, rfl, hil, hgk, hG1, hno⟩ := hrel
    have hSr := hS1.grown hG1
    have kr := (hG1.block _ (lt_of_heap k1) (by simp)).trans k1
    have c0 : wr.cell? ⟨sb, 0, none⟩ = some (.int .i64 S.n) := cell_blk hSr.st 0
    by_cases hlt : i < S.n
    · have hli : (i : Int) + 1 ≤ (S.n : Int) := by omega
      have hpn : ((i : Int) + 1).toNat - 1 = i := by omega
      have hcli := hG.cl i (by omega)
      have hwc : IntKind.i64.wrap (S.cl i + 1) = S.cl i + 1 := by rw [IntKind.wrap_i64]; omega
      obtain ⟨EP, hEP, hPI⟩ := hSr.pen
      obtain ⟨y, f, hlk, hf1, hf2⟩ := lookPen hPI mp ((i : Int) + 1) (S.cl i + 1)
      have HF : Hid ((f = true → y ∈ S.wt ∧ y.o = (i : Int) + 1 ∧ y.num = S.cl i + 1) ∧ (f = false → ∀ z ∈ S.wt, ¬ (z.o = (i : Int) + 1 ∧ z.num = S.cl i + 1))) := hide ⟨hf1, hf2⟩
      clear hf1 hf2 hPI
      have c12 : wr.cell? ⟨sb, 12, none⟩ = some (.map (some mp)) := cell_blk hSr.st 12
      have hclk : wr.cell? ⟨sb, 2 + i, none⟩ = some (.int .i64 (S.cl i)) := hSr.clock i (by omega)
      have hOf := fun (w' : World) (hc : w'.cell? ⟨sb, 2 + i, none⟩ = some (.int .i64 (S.cl i))) => of_any sb 2 ((i : Int) + 1) (by omega) (by omega) (S.cl i) w' (by rw [hpn]; exact hc)
      have HO := hide hOf
      clear hOf
      have n1 := World.new_ne wr _ c12
      go_upto_region 4 with fail
      go_cut [5, 6] from 7 to 37 (fun s5 s6 wx => s6 = .bool f ∧ ∃ b5 : Nat, s5 = .pointer (some ⟨b5, 0, none⟩) ∧ wx.heap[b5]? = some (.cells #[.int .i64 y.o, .int .i64 y.num, .int .i64 y.c, .int .i64 y.kind, .int .i64 y.tc, .int .i64 y.tk, .int .i32 y.r, .int .i64 (y.q 0), .int .i64 (y.q 1), .int .i64 (y.q 2), .int .i64 (y.q 3), .int .i64 (y.q 4), .int .i64 (y.q 5), .int .i64 (y.q 6), .int .i64 (y.q 7)] 154) ∧ wr.grownBy wx none ∧ wr.heap.size ≤ b5)
      case first =>
        go_region_held3 (fun w' => w'.cell? ⟨sb, 12, none⟩ = some (.map (some mp)) ∧ entsAt w' mp EP ∧ w'.cell? ⟨sb, 2 + i, none⟩ = some (.int .i64 (S.cl i))) (go_keep)
          (first | (go_at_call 130; refine (HO.out _ (by go_keep)).mono ?_; rintro e w' ⟨rfl, rfl⟩))
        all_goals (go_wp2_with fail; go_meet)
        all_goals exact ⟨rfl, _, rfl, by simp only [heap_drew, heap_alloc_at]; simp, by repeat (first | exact grown_refl _ | refine grown_drew ?_ | refine grown_alloc ?_ _), Nat.le_refl _⟩
      case rest =>
      obtain ⟨rfl, b5, rfl, hb5, g2, hge⟩ := hcut
      have hSc := hSr.grown g2
      clear hlk hclk HO n1 c12 hEP c0
      have hwi : IntKind.i64.wrap ((i : Int) + 1 + 1) = (i : Int) + 1 + 1 := by rw [IntKind.wrap_i64]; omega
      have d0 : wc.cell? ⟨b5, 0, none⟩ = some (.int .i64 y.o) := cell_blk hb5 0
      have d1 : wc.cell? ⟨b5, 1, none⟩ = some (.int .i64 y.num) := cell_blk hb5 1
      have d2 : wc.cell? ⟨b5, 2, none⟩ = some (.int .i64 y.c) := cell_blk hb5 2
      have d3 : wc.cell? ⟨b5, 3, none⟩ = some (.int .i64 y.kind) := cell_blk hb5 3
      have d4 : wc.cell? ⟨b5, 4, none⟩ = some (.int .i64 y.tc) := cell_blk hb5 4
      have d5 : wc.cell? ⟨b5, 5, none⟩ = some (.int .i64 y.tk) := cell_blk hb5 5
      have d6 : wc.cell? ⟨b5, 6, none⟩ = some (.int .i32 y.r) := cell_blk hb5 6
      have d7 : wc.cell? ⟨b5, 7, none⟩ = some (.int .i64 (y.q 0)) := cell_blk hb5 7
      have d8 : wc.cell? ⟨b5, 8, none⟩ = some (.int .i64 (y.q 1)) := cell_blk hb5 8
      have d9 : wc.cell? ⟨b5, 9, none⟩ = some (.int .i64 (y.q 2)) := cell_blk hb5 9
      have d10 : wc.cell? ⟨b5, 10, none⟩ = some (.int .i64 (y.q 3)) := cell_blk hb5 10
      have d11 : wc.cell? ⟨b5, 11, none⟩ = some (.int .i64 (y.q 4)) := cell_blk hb5 11
      have d12 : wc.cell? ⟨b5, 12, none⟩ = some (.int .i64 (y.q 5)) := cell_blk hb5 12
      have d13 : wc.cell? ⟨b5, 13, none⟩ = some (.int .i64 (y.q 6)) := cell_blk hb5 13
      have d14 : wc.cell? ⟨b5, 14, none⟩ = some (.int .i64 (y.q 7)) := cell_blk hb5 14
      cases f with
      | false =>
        have HQ : Hid (∀ z ∈ S.wt, RdyS S z → ((i + 1 : Nat) : Int) < z.o) := hide (fun z hz hr => by
          have h1 := hno.out z hz hr
          rcases Int.lt_or_le ((i : Int) + 1) z.o with h2 | h2
          · omega
          · have e : z.o = (i : Int) + 1 := by omega
            have h3 := hr.1
            have e2 : z.o.toNat - 1 = i := by omega
            rw [e2] at h3
            exact (HF.out.2 rfl z hz ⟨e, h3⟩).elim)
        go_wp2_with fail
        go_roundg (S.n - (i + 1))
        case measure => omega
        case rel => exact ⟨i + 1, by go_num, by omega, rfl, grown_trans hG1 g2, HQ⟩
      | true =>
        obtain ⟨hy, ho, hnum⟩ := HF.out.1 rfl
        have HR := hide (ready_op sb ma mp lb mb S hG y (hI.wo.ok y hy) wc hSc)
        have HX := hide (And.intro hy (And.intro ho hnum))
        clear hy ho hnum
        go_wp2_with fail
        refine HR.out.mono ?_
        rintro e w3 ⟨b, rfl, g3, hb⟩
        cases b with
        | false =>
          have HQ : Hid (∀ z ∈ S.wt, RdyS S z → ((i + 1 : Nat) : Int) < z.o) := hide (fun z hz hr => by
            have h1 := hno.out z hz hr
            rcases Int.lt_or_le ((i : Int) + 1) z.o with h2 | h2
            · omega
            · have e : z.o = (i : Int) + 1 := by omega
              have h3 := hr.1
              have e2 : z.o.toNat - 1 = i := by omega
              rw [e2] at h3
              have : z = y := one_name hI.wo.one hz HX.out.1 ⟨by rw [e, HX.out.2.1], by rw [h3, HX.out.2.2]⟩
              rw [this] at hr
              exact absurd (hb.2 hr) (by simp))
          clear hb
          go_wp2_with fail
          go_roundg (S.n - (i + 1))
          case measure => omega
          case rel => exact ⟨i + 1, by go_num, by omega, rfl, grown_trans hG1 (grown_trans g2 g3), HQ⟩
        | true =>
          have HN : Hid (IsNext S y) := hide ⟨HX.out.1, hb.1 rfl, fun z hz hr => by have := hno.out z hz hr; rw [HX.out.2.1]; omega⟩
          clear hb
          have k5 := (g3.block _ (lt_of_heap hb5) (by simp)).trans hb5
          have k2 := ((grown_trans g2 g3).block _ (lt_of_heap kr) (by simp)).trans kr
          have x0 : w3.cell? ⟨b5, 0, none⟩ = some (.int .i64 y.o) := cell_blk k5 0
          have x1 : w3.cell? ⟨b5, 1, none⟩ = some (.int .i64 y.num) := cell_blk k5 1
          have x2 : w3.cell? ⟨b5, 2, none⟩ = some (.int .i64 y.c) := cell_blk k5 2
          have x3 : w3.cell? ⟨b5, 3, none⟩ = some (.int .i64 y.kind) := cell_blk k5 3
          have x4 : w3.cell? ⟨b5, 4, none⟩ = some (.int .i64 y.tc) := cell_blk k5 4
          have x5 : w3.cell? ⟨b5, 5, none⟩ = some (.int .i64 y.tk) := cell_blk k5 5
          have x6 : w3.cell? ⟨b5, 6, none⟩ = some (.int .i32 y.r) := cell_blk k5 6
          have x7 : w3.cell? ⟨b5, 7, none⟩ = some (.int .i64 (y.q 0)) := cell_blk k5 7
          have x8 : w3.cell? ⟨b5, 8, none⟩ = some (.int .i64 (y.q 1)) := cell_blk k5 8
          have x9 : w3.cell? ⟨b5, 9, none⟩ = some (.int .i64 (y.q 2)) := cell_blk k5 9
          have x10 : w3.cell? ⟨b5, 10, none⟩ = some (.int .i64 (y.q 3)) := cell_blk k5 10
          have x11 : w3.cell? ⟨b5, 11, none⟩ = some (.int .i64 (y.q 4)) := cell_blk k5 11
          have x12 : w3.cell? ⟨b5, 12, none⟩ = some (.int .i64 (y.q 5)) := cell_blk k5 12
          have x13 : w3.cell? ⟨b5, 13, none⟩ = some (.int .i64 (y.q 6)) := cell_blk k5 13
          have x14 : w3.cell? ⟨b5, 14, none⟩ = some (.int .i64 (y.q 7)) := cell_blk k5 14
          have z0 : w3.cell? ⟨bb, 0, none⟩ = some (.int .i64 0) := cell_blk k2 0
          have z1 : w3.cell? ⟨bb, 1, none⟩ = some (.int .i64 0) := cell_blk k2 1
          have z2 : w3.cell? ⟨bb, 2, none⟩ = some (.int .i64 0) := cell_blk k2 2
          have z3 : w3.cell? ⟨bb, 3, none⟩ = some (.int .i64 0) := cell_blk k2 3
          have z4 : w3.cell? ⟨bb, 4, none⟩ = some (.int .i64 0) := cell_blk k2 4
          have z5 : w3.cell? ⟨bb, 5, none⟩ = some (.int .i64 0) := cell_blk k2 5
          have z6 : w3.cell? ⟨bb, 6, none⟩ = some (.int .i32 0) := cell_blk k2 6
          have z7 : w3.cell? ⟨bb, 7, none⟩ = some (.int .i64 0) := cell_blk k2 7
          have z8 : w3.cell? ⟨bb, 8, none⟩ = some (.int .i64 0) := cell_blk k2 8
          have z9 : w3.cell? ⟨bb, 9, none⟩ = some (.int .i64 0) := cell_blk k2 9
          have z10 : w3.cell? ⟨bb, 10, none⟩ = some (.int .i64 0) := cell_blk k2 10
          have z11 : w3.cell? ⟨bb, 11, none⟩ = some (.int .i64 0) := cell_blk k2 11
          have z12 : w3.cell? ⟨bb, 12, none⟩ = some (.int .i64 0) := cell_blk k2 12
          have z13 : w3.cell? ⟨bb, 13, none⟩ = some (.int .i64 0) := cell_blk k2 13
          have z14 : w3.cell? ⟨bb, 14, none⟩ = some (.int .i64 0) := cell_blk k2 14
          have f0 : w3.frozen? ⟨bb, 0, none⟩ = false := frozen_blk k2 0
          have f1 : w3.frozen? ⟨bb, 1, none⟩ = false := frozen_blk k2 1
          have f2 : w3.frozen? ⟨bb, 2, none⟩ = false := frozen_blk k2 2
          have f3 : w3.frozen? ⟨bb, 3, none⟩ = false := frozen_blk k2 3
          have f4 : w3.frozen? ⟨bb, 4, none⟩ = false := frozen_blk k2 4
          have f5 : w3.frozen? ⟨bb, 5, none⟩ = false := frozen_blk k2 5
          have f6 : w3.frozen? ⟨bb, 6, none⟩ = false := frozen_blk k2 6
          have f7 : w3.frozen? ⟨bb, 7, none⟩ = false := frozen_blk k2 7
          have f8 : w3.frozen? ⟨bb, 8, none⟩ = false := frozen_blk k2 8
          have f9 : w3.frozen? ⟨bb, 9, none⟩ = false := frozen_blk k2 9
          have f10 : w3.frozen? ⟨bb, 10, none⟩ = false := frozen_blk k2 10
          have f11 : w3.frozen? ⟨bb, 11, none⟩ = false := frozen_blk k2 11
          have f12 : w3.frozen? ⟨bb, 12, none⟩ = false := frozen_blk k2 12
          have f13 : w3.frozen? ⟨bb, 13, none⟩ = false := frozen_blk k2 13
          have f14 : w3.frozen? ⟨bb, 14, none⟩ = false := frozen_blk k2 14
          go_wp2_with fail
          have kW := set15 k2 (.int .i64 y.o) (.int .i64 y.num) (.int .i64 y.c) (.int .i64 y.kind) (.int .i64 y.tc) (.int .i64 y.tk) (.int .i32 y.r) (.int .i64 (y.q 0)) (.int .i64 (y.q 1)) (.int .i64 (y.q 2)) (.int .i64 (y.q 3)) (.int .i64 (y.q 4)) (.int .i64 (y.q 5)) (.int .i64 (y.q 6)) (.int .i64 (y.q 7))
          have hFW : Fr [] w (((((((((((((((w3.setCell ⟨bb, 0, none⟩ (.int .i64 y.o)).setCell ⟨bb, 1, none⟩ (.int .i64 y.num)).setCell ⟨bb, 2, none⟩ (.int .i64 y.c)).setCell ⟨bb, 3, none⟩ (.int .i64 y.kind)).setCell ⟨bb, 4, none⟩ (.int .i64 y.tc)).setCell ⟨bb, 5, none⟩ (.int .i64 y.tk)).setCell ⟨bb, 6, none⟩ (.int .i32 y.r)).setCell ⟨bb, 7, none⟩ (.int .i64 (y.q 0))).setCell ⟨bb, 8, none⟩ (.int .i64 (y.q 1))).setCell ⟨bb, 9, none⟩ (.int .i64 (y.q 2))).setCell ⟨bb, 10, none⟩ (.int .i64 (y.q 3))).setCell ⟨bb, 11, none⟩ (.int .i64 (y.q 4))).setCell ⟨bb, 12, none⟩ (.int .i64 (y.q 5))).setCell ⟨bb, 13, none⟩ (.int .i64 (y.q 6))).setCell ⟨bb, 14, none⟩ (.int .i64 (y.q 7))) := (((((((((((((((((Fr.refl [] w).grown (grown_trans g1 (grown_trans hG1 (grown_trans g2 g3))) (by simp)).setCell (.inr (by show w.heap.size ≤ bb; omega)) _).setCell (.inr (by show w.heap.size ≤ bb; omega)) _).setCell (.inr (by show w.heap.size ≤ bb; omega)) _).setCell (.inr (by show w.heap.size ≤ bb; omega)) _).setCell (.inr (by show w.heap.size ≤ bb; omega)) _).setCell (.inr (by show w.heap.size ≤ bb; omega)) _).setCell (.inr (by show w.heap.size ≤ bb; omega)) _).setCell (.inr (by show w.heap.size ≤ bb; omega)) _).setCell (.inr (by show w.heap.size ≤ bb; omega)) _).setCell (.inr (by show w.heap.size ≤ bb; omega)) _).setCell (.inr (by show w.heap.size ≤ bb; omega)) _).setCell (.inr (by show w.heap.size ≤ bb; omega)) _).setCell (.inr (by show w.heap.size ≤ bb; omega)) _).setCell (.inr (by show w.heap.size ≤ bb; omega)) _).setCell (.inr (by show w.heap.size ≤ bb; omega)) _)
          generalize (((((((((((((((w3.setCell ⟨bb, 0, none⟩ (.int .i64 y.o)).setCell ⟨bb, 1, none⟩ (.int .i64 y.num)).setCell ⟨bb, 2, none⟩ (.int .i64 y.c)).setCell ⟨bb, 3, none⟩ (.int .i64 y.kind)).setCell ⟨bb, 4, none⟩ (.int .i64 y.tc)).setCell ⟨bb, 5, none⟩ (.int .i64 y.tk)).setCell ⟨bb, 6, none⟩ (.int .i32 y.r)).setCell ⟨bb, 7, none⟩ (.int .i64 (y.q 0))).setCell ⟨bb, 8, none⟩ (.int .i64 (y.q 1))).setCell ⟨bb, 9, none⟩ (.int .i64 (y.q 2))).setCell ⟨bb, 10, none⟩ (.int .i64 (y.q 3))).setCell ⟨bb, 11, none⟩ (.int .i64 (y.q 4))).setCell ⟨bb, 12, none⟩ (.int .i64 (y.q 5))).setCell ⟨bb, 13, none⟩ (.int .i64 (y.q 6))).setCell ⟨bb, 14, none⟩ (.int .i64 (y.q 7))) = w4 at kW hFW ⊢
          have y0 : w4.cell? ⟨bb, 0, none⟩ = some (.int .i64 y.o) := cell_blk kW 0
          have y1 : w4.cell? ⟨bb, 1, none⟩ = some (.int .i64 y.num) := cell_blk kW 1
          have y2 : w4.cell? ⟨bb, 2, none⟩ = some (.int .i64 y.c) := cell_blk kW 2
          have y3 : w4.cell? ⟨bb, 3, none⟩ = some (.int .i64 y.kind) := cell_blk kW 3
          have y4 : w4.cell? ⟨bb, 4, none⟩ = some (.int .i64 y.tc) := cell_blk kW 4
          have y5 : w4.cell? ⟨bb, 5, none⟩ = some (.int .i64 y.tk) := cell_blk kW 5
          have y6 : w4.cell? ⟨bb, 6, none⟩ = some (.int .i32 y.r) := cell_blk kW 6
          have y7 : w4.cell? ⟨bb, 7, none⟩ = some (.int .i64 (y.q 0)) := cell_blk kW 7
          have y8 : w4.cell? ⟨bb, 8, none⟩ = some (.int .i64 (y.q 1)) := cell_blk kW 8
          have y9 : w4.cell? ⟨bb, 9, none⟩ = some (.int .i64 (y.q 2)) := cell_blk kW 9
          have y10 : w4.cell? ⟨bb, 10, none⟩ = some (.int .i64 (y.q 3)) := cell_blk kW 10
          have y11 : w4.cell? ⟨bb, 11, none⟩ = some (.int .i64 (y.q 4)) := cell_blk kW 11
          have y12 : w4.cell? ⟨bb, 12, none⟩ = some (.int .i64 (y.q 5)) := cell_blk kW 12
          have y13 : w4.cell? ⟨bb, 13, none⟩ = some (.int .i64 (y.q 6)) := cell_blk kW 13
          have y14 : w4.cell? ⟨bb, 14, none⟩ = some (.int .i64 (y.q 7)) := cell_blk kW 14
          exact bodyPost_ret (v := .tuple #[.agg #[.int .i64 y.o, .int .i64 y.num, .int .i64 y.c, .int .i64 y.kind, .int .i64 y.tc, .int .i64 y.tk, .int .i32 y.r, .int .i64 (y.q 0), .int .i64 (y.q 1), .int .i64 (y.q 2), .int .i64 (y.q 3), .int .i64 (y.q 4), .int .i64 (y.q 5), .int .i64 (y.q 6), .int .i64 (y.q 7)], .bool true]) (by simp [results, Tryz.results160, go_sem, y0, y1, y2, y3, y4, y5, y6, y7, y8, y9, y10, y11, y12, y13, y14]) rfl ⟨y, true, rfl, hFW.toGrown, fun _ => HN.out, fun q => (by cases q)⟩
    · have HN : Hid (NoNext S) := hide (fun z hz hr => by have := hno.out z hz hr; have := (hI.wo.ok z hz).o.2; omega)
      have z0 : wr.cell? ⟨bb, 0, none⟩ = some (.int .i64 0) := cell_blk kr 0
      have z1 : wr.cell? ⟨bb, 1, none⟩ = some (.int .i64 0) := cell_blk kr 1
      have z2 : wr.cell? ⟨bb, 2, none⟩ = some (.int .i64 0) := cell_blk kr 2
      have z3 : wr.cell? ⟨bb, 3, none⟩ = some (.int .i64 0) := cell_blk kr 3
      have z4 : wr.cell? ⟨bb, 4, none⟩ = some (.int .i64 0) := cell_blk kr 4
      have z5 : wr.cell? ⟨bb, 5, none⟩ = some (.int .i64 0) := cell_blk kr 5
      have z6 : wr.cell? ⟨bb, 6, none⟩ = some (.int .i32 0) := cell_blk kr 6
      have z7 : wr.cell? ⟨bb, 7, none⟩ = some (.int .i64 0) := cell_blk kr 7
      have z8 : wr.cell? ⟨bb, 8, none⟩ = some (.int .i64 0) := cell_blk kr 8
      have z9 : wr.cell? ⟨bb, 9, none⟩ = some (.int .i64 0) := cell_blk kr 9
      have z10 : wr.cell? ⟨bb, 10, none⟩ = some (.int .i64 0) := cell_blk kr 10
      have z11 : wr.cell? ⟨bb, 11, none⟩ = some (.int .i64 0) := cell_blk kr 11
      have z12 : wr.cell? ⟨bb, 12, none⟩ = some (.int .i64 0) := cell_blk kr 12
      have z13 : wr.cell? ⟨bb, 13, none⟩ = some (.int .i64 0) := cell_blk kr 13
      have z14 : wr.cell? ⟨bb, 14, none⟩ = some (.int .i64 0) := cell_blk kr 14
      have f0 : wr.frozen? ⟨bb, 0, none⟩ = false := frozen_blk kr 0
      have f1 : wr.frozen? ⟨bb, 1, none⟩ = false := frozen_blk kr 1
      have f2 : wr.frozen? ⟨bb, 2, none⟩ = false := frozen_blk kr 2
      have f3 : wr.frozen? ⟨bb, 3, none⟩ = false := frozen_blk kr 3
      have f4 : wr.frozen? ⟨bb, 4, none⟩ = false := frozen_blk kr 4
      have f5 : wr.frozen? ⟨bb, 5, none⟩ = false := frozen_blk kr 5
      have f6 : wr.frozen? ⟨bb, 6, none⟩ = false := frozen_blk kr 6
      have f7 : wr.frozen? ⟨bb, 7, none⟩ = false := frozen_blk kr 7
      have f8 : wr.frozen? ⟨bb, 8, none⟩ = false := frozen_blk kr 8
      have f9 : wr.frozen? ⟨bb, 9, none⟩ = false := frozen_blk kr 9
      have f10 : wr.frozen? ⟨bb, 10, none⟩ = false := frozen_blk kr 10
      have f11 : wr.frozen? ⟨bb, 11, none⟩ = false := frozen_blk kr 11
      have f12 : wr.frozen? ⟨bb, 12, none⟩ = false := frozen_blk kr 12
      have f13 : wr.frozen? ⟨bb, 13, none⟩ = false := frozen_blk kr 13
      have f14 : wr.frozen? ⟨bb, 14, none⟩ = false := frozen_blk kr 14
      go_wp2_with fail
      have kW := set15 kr (.int .i64 0) (.int .i64 0) (.int .i64 0) (.int .i64 0) (.int .i64 0) (.int .i64 0) (.int .i32 0) (.int .i64 0) (.int .i64 0) (.int .i64 0) (.int .i64 0) (.int .i64 0) (.int .i64 0) (.int .i64 0) (.int .i64 0)
      have hFW : Fr [] w (((((((((((((((wr.setCell ⟨bb, 0, none⟩ (.int .i64 0)).setCell ⟨bb, 1, none⟩ (.int .i64 0)).setCell ⟨bb, 2, none⟩ (.int .i64 0)).setCell ⟨bb, 3, none⟩ (.int .i64 0)).setCell ⟨bb, 4, none⟩ (.int .i64 0)).setCell ⟨bb, 5, none⟩ (.int .i64 0)).setCell ⟨bb, 6, none⟩ (.int .i32 0)).setCell ⟨bb, 7, none⟩ (.int .i64 0)).setCell ⟨bb, 8, none⟩ (.int .i64 0)).setCell ⟨bb, 9, none⟩ (.int .i64 0)).setCell ⟨bb, 10, none⟩ (.int .i64 0)).setCell ⟨bb, 11, none⟩ (.int .i64 0)).setCell ⟨bb, 12, none⟩ (.int .i64 0)).setCell ⟨bb, 13, none⟩ (.int .i64 0)).setCell ⟨bb, 14, none⟩ (.int .i64 0)) := (((((((((((((((((Fr.refl [] w).grown (grown_trans g1 hG1) (by simp)).setCell (.inr (by show w.heap.size ≤ bb; omega)) _).setCell (.inr (by show w.heap.size ≤ bb; omega)) _).setCell (.inr (by show w.heap.size ≤ bb; omega)) _).setCell (.inr (by show w.heap.size ≤ bb; omega)) _).setCell (.inr (by show w.heap.size ≤ bb; omega)) _).setCell (.inr (by show w.heap.size ≤ bb; omega)) _).setCell (.inr (by show w.heap.size ≤ bb; omega)) _).setCell (.inr (by show w.heap.size ≤ bb; omega)) _).setCell (.inr (by show w.heap.size ≤ bb; omega)) _).setCell (.inr (by show w.heap.size ≤ bb; omega)) _).setCell (.inr (by show w.heap.size ≤ bb; omega)) _).setCell (.inr (by show w.heap.size ≤ bb; omega)) _).setCell (.inr (by show w.heap.size ≤ bb; omega)) _).setCell (.inr (by show w.heap.size ≤ bb; omega)) _).setCell (.inr (by show w.heap.size ≤ bb; omega)) _)
      generalize (((((((((((((((wr.setCell ⟨bb, 0, none⟩ (.int .i64 0)).setCell ⟨bb, 1, none⟩ (.int .i64 0)).setCell ⟨bb, 2, none⟩ (.int .i64 0)).setCell ⟨bb, 3, none⟩ (.int .i64 0)).setCell ⟨bb, 4, none⟩ (.int .i64 0)).setCell ⟨bb, 5, none⟩ (.int .i64 0)).setCell ⟨bb, 6, none⟩ (.int .i32 0)).setCell ⟨bb, 7, none⟩ (.int .i64 0)).setCell ⟨bb, 8, none⟩ (.int .i64 0)).setCell ⟨bb, 9, none⟩ (.int .i64 0)).setCell ⟨bb, 10, none⟩ (.int .i64 0)).setCell ⟨bb, 11, none⟩ (.int .i64 0)).setCell ⟨bb, 12, none⟩ (.int .i64 0)).setCell ⟨bb, 13, none⟩ (.int .i64 0)).setCell ⟨bb, 14, none⟩ (.int .i64 0)) = w4 at kW hFW ⊢
      have y0 : w4.cell? ⟨bb, 0, none⟩ = some (.int .i64 0) := cell_blk kW 0
      have y1 : w4.cell? ⟨bb, 1, none⟩ = some (.int .i64 0) := cell_blk kW 1
      have y2 : w4.cell? ⟨bb, 2, none⟩ = some (.int .i64 0) := cell_blk kW 2
      have y3 : w4.cell? ⟨bb, 3, none⟩ = some (.int .i64 0) := cell_blk kW 3
      have y4 : w4.cell? ⟨bb, 4, none⟩ = some (.int .i64 0) := cell_blk kW 4
      have y5 : w4.cell? ⟨bb, 5, none⟩ = some (.int .i64 0) := cell_blk kW 5
      have y6 : w4.cell? ⟨bb, 6, none⟩ = some (.int .i32 0) := cell_blk kW 6
      have y7 : w4.cell? ⟨bb, 7, none⟩ = some (.int .i64 0) := cell_blk kW 7
      have y8 : w4.cell? ⟨bb, 8, none⟩ = some (.int .i64 0) := cell_blk kW 8
      have y9 : w4.cell? ⟨bb, 9, none⟩ = some (.int .i64 0) := cell_blk kW 9
      have y10 : w4.cell? ⟨bb, 10, none⟩ = some (.int .i64 0) := cell_blk kW 10
      have y11 : w4.cell? ⟨bb, 11, none⟩ = some (.int .i64 0) := cell_blk kW 11
      have y12 : w4.cell? ⟨bb, 12, none⟩ = some (.int .i64 0) := cell_blk kW 12
      have y13 : w4.cell? ⟨bb, 13, none⟩ = some (.int .i64 0) := cell_blk kW 13
      have y14 : w4.cell? ⟨bb, 14, none⟩ = some (.int .i64 0) := cell_blk kW 14
      exact bodyPost_ret (v := .tuple #[.agg #[.int .i64 0, .int .i64 0, .int .i64 0, .int .i64 0, .int .i64 0, .int .i64 0, .int .i32 0, .int .i64 0, .int .i64 0, .int .i64 0, .int .i64 0, .int .i64 0, .int .i64 0, .int .i64 0, .int .i64 0], .bool false]) (by simp [results, Tryz.results160, go_sem, y0, y1, y2, y3, y4, y5, y6, y7, y8, y9, y10, y11, y12, y13, y14]) rfl ⟨⟨0, 0, 0, 0, 0, 0, 0, fun _ => 0⟩, false, rfl, hFW.toGrown, fun q => (by cases q), fun _ => HN.out⟩

end Go.Proofs.YtachmkhbbbmioaaGreat

namespace Go.Proofs.YtachmkhbbbmioaaGreat
open Go.RowKit Go.Shelf
attribute [local go_sem ↓] Go.wp_at_zero Go.wp_at_succ
attribute [local simp] entsAt_drew entsAt_setCell entsAt_alloc

/-- The blocks of a state that taking an operation turns. -/
abbrev own5 (sb ma mp mb : Nat) : List Nat := [sb, ma, mp, mb]

theorem StAt.rem {sb ma mp lb mb : Nat} {S : CS} {w w' : World} (h : StAt sb ma mp lb mb S w) (hw : WtOk S) {y : OpR} (hy : y ∈ S.wt) {E : List Ent} (hE : PenIs E S.wt) (g : w.grownBy w' (some mp)) (he : entsAt w' mp (del y.o y.num E)) : StAt sb ma mp lb mb (remS S y) w' := by
  obtain ⟨⟨n1, n2, n3, n4⟩, n5, n6, n7⟩ := h.ne
  obtain ⟨EL, h1, h2⟩ := h.ln
  obtain ⟨EA, h3, h4⟩ := h.app
  have k : ∀ b, b < w.heap.size → b ≠ mp → w'.heap[b]? = w.heap[b]? := fun b hb hne => g.block b hb (fun q => hne (by cases q; rfl))
  exact ⟨(k sb (lt_of_heap h.st) n2).trans h.st, ⟨EA, h3.of_block (k ma h3.lt h.ne1), h4⟩, ⟨_, he, pen_del hE hw.one hy⟩, ⟨EL, ⟨(k lb (lt_of_heap h1.line) n6).trans h1.line, h1.ents.of_block (k mb h1.ents.lt (Ne.symm h.ne3))⟩, h2⟩, h.ne1, h.ne2, h.ne3⟩

theorem StAt.wait {sb ma mp lb mb : Nat} {S : CS} {w w' : World} (h : StAt sb ma mp lb mb S w) {y : OpR} (hy : ¬ ∃ z ∈ S.wt, z.o = y.o ∧ z.num = y.num) {E : List Ent} {n : Nat} (hE : PenIs E S.wt) (g : w.grownBy w' (some mp)) (he : entsAt w' mp (put y.o y.num (.agg y.arr) n E)) : StAt sb ma mp lb mb (waitS S y) w' := by
  obtain ⟨⟨n1, n2, n3, n4⟩, n5, n6, n7⟩ := h.ne
  obtain ⟨EL, h1, h2⟩ := h.ln
  obtain ⟨EA, h3, h4⟩ := h.app
  have k : ∀ b, b < w.heap.size → b ≠ mp → w'.heap[b]? = w.heap[b]? := fun b hb hne => g.block b hb (fun q => hne (by cases q; rfl))
  exact ⟨(k sb (lt_of_heap h.st) n2).trans h.st, ⟨EA, h3.of_block (k ma h3.lt h.ne1), h4⟩, ⟨_, he, pen_put hE hy n⟩, ⟨EL, ⟨(k lb (lt_of_heap h1.line) n6).trans h1.line, h1.ents.of_block (k mb h1.ents.lt (Ne.symm h.ne3))⟩, h2⟩, h.ne1, h.ne2, h.ne3⟩

set_option maxRecDepth 100000 in
set_option maxHeartbeats 8000000 in
theorem drain_any (sb ma mp lb mb : Nat) (S : CS) (hI : Inv S) (w : World) (hS : StAt sb ma mp lb mb S w) :
    Calls Tryz.prog 134 #[.pointer (some ⟨sb, 0, none⟩)] w fun e w' => e = .returned (.tuple #[]) ∧ StAt sb ma mp lb mb (drainS S.wt.length S) w' ∧ Fr (own5 sb ma mp mb) w w' := by
  have hlt := hS.lts
  have hF0 := hide (first_any sb ma mp lb mb S hI w hS)
  go_enter Tryz.func134, Tryz.ntmps134
  go_wp2_with fail
  refine hF0.out.mono ?_
  rintro e w1 ⟨y0, f0, rfl, g1, hf0⟩
  go_wp2_with fail
  have hB0 : w1.grownBy (w1.alloc (.cells #[.int .i64 y0.o, .int .i64 y0.num, .int .i64 y0.c, .int .i64 y0.kind, .int .i64 y0.tc, .int .i64 y0.tk, .int .i32 y0.r, .int .i64 (y0.q 0), .int .i64 (y0.q 1), .int .i64 (y0.q 2), .int .i64 (y0.q 3), .int .i64 (y0.q 4), .int .i64 (y0.q 5), .int .i64 (y0.q 6), .int .i64 (y0.q 7)] 154)) none := grown_alloc (grown_refl _) _
  have kb0 : (w1.alloc (.cells #[.int .i64 y0.o, .int .i64 y0.num, .int .i64 y0.c, .int .i64 y0.kind, .int .i64 y0.tc, .int .i64 y0.tk, .int .i32 y0.r, .int .i64 (y0.q 0), .int .i64 (y0.q 1), .int .i64 (y0.q 2), .int .i64 (y0.q 3), .int .i64 (y0.q 4), .int .i64 (y0.q 5), .int .i64 (y0.q 6), .int .i64 (y0.q 7)] 154)).heap[w1.heap.size]? = some (.cells #[.int .i64 y0.o, .int .i64 y0.num, .int .i64 y0.c, .int .i64 y0.kind, .int .i64 y0.tc, .int .i64 y0.tk, .int .i32 y0.r, .int .i64 (y0.q 0), .int .i64 (y0.q 1), .int .i64 (y0.q 2), .int .i64 (y0.q 3), .int .i64 (y0.q 4), .int .i64 (y0.q 5), .int .i64 (y0.q 6), .int .i64 (y0.q 7)] 154) := by rw [heap_alloc_at]; simp
  generalize (w1.alloc (.cells #[.int .i64 y0.o, .int .i64 y0.num, .int .i64 y0.c, .int .i64 y0.kind, .int .i64 y0.tc, .int .i64 y0.tk, .int .i32 y0.r, .int .i64 (y0.q 0), .int .i64 (y0.q 1), .int .i64 (y0.q 2), .int .i64 (y0.q 3), .int .i64 (y0.q 4), .int .i64 (y0.q 5), .int .i64 (y0.q 6), .int .i64 (y0.q 7)] 154)) = w2 at hB0 kb0 ⊢
  have HS2 := hide (hS.grown (grown_trans g1 hB0))
  have HF2 : Hid (Fr (own5 sb ma mp mb) w w2) := hide ((Fr.refl _ w).grown (grown_trans g1 hB0) (by simp))
  have hb0 : w.heap.size ≤ w1.heap.size := g1.size
  generalize w1.heap.size = bb0 at kb0 hb0 ⊢
  clear hF0 g1 hB0
  go_loopg [2, 3] S.wt.length (fun gk s2 s3 wr => ∃ (S' : CS) (y : OpR) (f : Bool) (b2 : Nat), s2 = .pointer (some ⟨b2, 0, none⟩) ∧ s3 = .bool f ∧ gk = S'.wt.length ∧ w.heap.size ≤ b2 ∧ wr.heap[b2]? = some (.cells #[.int .i64 y.o, .int .i64 y.num, .int .i64 y.c, .int .i64 y.kind, .int .i64 y.tc, .int .i64 y.tk, .int .i32 y.r, .int .i64 (y.q 0), .int .i64 (y.q 1), .int .i64 (y.q 2), .int .i64 (y.q 3), .int .i64 (y.q 4), .int .i64 (y.q 5), .int .i64 (y.q 6), .int .i64 (y.q 7)] 154) ∧ Hid (StAt sb ma mp lb mb S' wr ∧ Inv S' ∧ (f = true → IsNext S' y) ∧ (f = false → NoNext S') ∧ drainS S'.wt.length S' = drainS S.wt.length S) ∧ Hid (Fr (own5 sb ma mp mb) w wr))
  case atStart => exact ⟨S, y0, f0, bb0, rfl, rfl, rfl, hb0, kb0, hide ⟨HS2.out, hI, hf0.1, hf0.2, rfl⟩, HF2⟩
  case round =>
    clear hf0 kb0 HS2 HF2 hb0
    obtain ⟨S', y, f, b2, rfl, rfl, hgk, hb2, kb2, HX, HF⟩ := hrel
    cases f with
    | false =>
      have HD : Hid (StAt sb ma mp lb mb (drainS S.wt.length S) wr) := hide (by rw [← HX.out.2.2.2.2, drain_stop (HX.out.2.2.2.1 rfl)]; exact HX.out.1)
      go_wp2_with fail
      go_end0
      exact ⟨rfl, HD.out, HF.out⟩
    | true =>
      obtain ⟨hSr, hI', hnx, -, hdr⟩ := HX.out
      have hnx := hnx rfl
      obtain ⟨EP, hEP, hPI⟩ := hSr.pen
      obtain ⟨w4, hd4, hc4, hz4, hs4, hg4, he4⟩ := del_ex keyName (w := wr.drew) hEP y.o y.num
      have c12 : wr.cell? ⟨sb, 12, none⟩ = some (.map (some mp)) := cell_blk hSr.st 12
      have d0 : wr.cell? ⟨b2, 0, none⟩ = some (.int .i64 y.o) := cell_blk kb2 0
      have d1 : wr.cell? ⟨b2, 1, none⟩ = some (.int .i64 y.num) := cell_blk kb2 1
      have d2 : wr.cell? ⟨b2, 2, none⟩ = some (.int .i64 y.c) := cell_blk kb2 2
      have d3 : wr.cell? ⟨b2, 3, none⟩ = some (.int .i64 y.kind) := cell_blk kb2 3
      have d4 : wr.cell? ⟨b2, 4, none⟩ = some (.int .i64 y.tc) := cell_blk kb2 4
      have d5 : wr.cell? ⟨b2, 5, none⟩ = some (.int .i64 y.tk) := cell_blk kb2 5
      have d6 : wr.cell? ⟨b2, 6, none⟩ = some (.int .i32 y.r) := cell_blk kb2 6
      have d7 : wr.cell? ⟨b2, 7, none⟩ = some (.int .i64 (y.q 0)) := cell_blk kb2 7
      have d8 : wr.cell? ⟨b2, 8, none⟩ = some (.int .i64 (y.q 1)) := cell_blk kb2 8
      have d9 : wr.cell? ⟨b2, 9, none⟩ = some (.int .i64 (y.q 2)) := cell_blk kb2 9
      have d10 : wr.cell? ⟨b2, 10, none⟩ = some (.int .i64 (y.q 3)) := cell_blk kb2 10
      have d11 : wr.cell? ⟨b2, 11, none⟩ = some (.int .i64 (y.q 4)) := cell_blk kb2 11
      have d12 : wr.cell? ⟨b2, 12, none⟩ = some (.int .i64 (y.q 5)) := cell_blk kb2 12
      have d13 : wr.cell? ⟨b2, 13, none⟩ = some (.int .i64 (y.q 6)) := cell_blk kb2 13
      have d14 : wr.cell? ⟨b2, 14, none⟩ = some (.int .i64 (y.q 7)) := cell_blk kb2 14
      have hS4 := hSr.rem hI'.wo hnx.1 hPI (w' := w4) ⟨hg4.os, hg4.tape, hg4.output, hg4.size, hg4.block⟩ he4
      have hF4 : Fr (own5 sb ma mp mb) w w4 := (HF.out.drew).grown hg4 (by rintro k q; cases q; simp)
      have k4 := (hg4.block b2 (lt_of_heap kb2) (fun q => by cases q; obtain ⟨cc, hcc⟩ := hEP; rw [hcc] at kb2; cases kb2)).trans kb2
      have HA := apply_any sb ma mp lb mb (remS S' y) (inv_rem hI' y) y (hI'.wo.ok y hnx.1) hnx.2.1 w4 hS4
      unfold OpR.arr opArr at HA
      have HA := hide HA
      have hI5 := hide (inv_step hI' hnx)
      have hdr5 := hide ((drain_step hI'.wo hnx).symm.trans hdr)
      have hl5 : (applyS (remS S' y) y).wt.length < S'.wt.length := by have := rem_len hI'.wo hnx.1; show (remW y S'.wt).length < _; omega
      have hlt' := hSr.lts
      have nb : b2 ∉ own3 sb ma mb := by
        have h1 := hlt sb (by simp)
        have h2 := hlt ma (by simp)
        have h3 := hlt mb (by simp)
        simp only [List.mem_cons, List.not_mem_nil, or_false]
        omega
      clear HX hSr hI' hnx hdr hPI hEP hlt'
      go_wp2_with fail
      go_region_held3 (fun w' => w'.cell? ⟨sb, 12, none⟩ = some (.map (some mp)) ∧ w'.cell? ⟨b2, 0, none⟩ = some (.int .i64 y.o) ∧ w'.cell? ⟨b2, 1, none⟩ = some (.int .i64 y.num)) (go_keep) (fail)
      go_wp2_with fail
      refine HA.out.mono ?_
      rintro e w5 ⟨rfl, hS5, hF5⟩
      have k5 := hF5.blk k4 nb
      have x0 : w5.cell? ⟨b2, 0, none⟩ = some (.int .i64 y.o) := cell_blk k5 0
      have x1 : w5.cell? ⟨b2, 1, none⟩ = some (.int .i64 y.num) := cell_blk k5 1
      have x2 : w5.cell? ⟨b2, 2, none⟩ = some (.int .i64 y.c) := cell_blk k5 2
      have x3 : w5.cell? ⟨b2, 3, none⟩ = some (.int .i64 y.kind) := cell_blk k5 3
      have x4 : w5.cell? ⟨b2, 4, none⟩ = some (.int .i64 y.tc) := cell_blk k5 4
      have x5 : w5.cell? ⟨b2, 5, none⟩ = some (.int .i64 y.tk) := cell_blk k5 5
      have x6 : w5.cell? ⟨b2, 6, none⟩ = some (.int .i32 y.r) := cell_blk k5 6
      have x7 : w5.cell? ⟨b2, 7, none⟩ = some (.int .i64 (y.q 0)) := cell_blk k5 7
      have x8 : w5.cell? ⟨b2, 8, none⟩ = some (.int .i64 (y.q 1)) := cell_blk k5 8
      have x9 : w5.cell? ⟨b2, 9, none⟩ = some (.int .i64 (y.q 2)) := cell_blk k5 9
      have x10 : w5.cell? ⟨b2, 10, none⟩ = some (.int .i64 (y.q 3)) := cell_blk k5 10
      have x11 : w5.cell? ⟨b2, 11, none⟩ = some (.int .i64 (y.q 4)) := cell_blk k5 11
      have x12 : w5.cell? ⟨b2, 12, none⟩ = some (.int .i64 (y.q 5)) := cell_blk k5 12
      have x13 : w5.cell? ⟨b2, 13, none⟩ = some (.int .i64 (y.q 6)) := cell_blk k5 13
      have x14 : w5.cell? ⟨b2, 14, none⟩ = some (.int .i64 (y.q 7)) := cell_blk k5 14
      have g6 : w5.grownBy (w5.alloc (.cells #[.int .i64 y.o, .int .i64 y.num, .int .i64 y.c, .int .i64 y.kind, .int .i64 y.tc, .int .i64 y.tk, .int .i32 y.r, .int .i64 (y.q 0), .int .i64 (y.q 1), .int .i64 (y.q 2), .int .i64 (y.q 3), .int .i64 (y.q 4), .int .i64 (y.q 5), .int .i64 (y.q 6), .int .i64 (y.q 7)] 154)) none := grown_alloc (grown_refl _) _
      have k6 : (w5.alloc (.cells #[.int .i64 y.o, .int .i64 y.num, .int .i64 y.c, .int .i64 y.kind, .int .i64 y.tc, .int .i64 y.tk, .int .i32 y.r, .int .i64 (y.q 0), .int .i64 (y.q 1), .int .i64 (y.q 2), .int .i64 (y.q 3), .int .i64 (y.q 4), .int .i64 (y.q 5), .int .i64 (y.q 6), .int .i64 (y.q 7)] 154)).heap[w5.heap.size]? = some (.cells #[.int .i64 y.o, .int .i64 y.num, .int .i64 y.c, .int .i64 y.kind, .int .i64 y.tc, .int .i64 y.tk, .int .i32 y.r, .int .i64 (y.q 0), .int .i64 (y.q 1), .int .i64 (y.q 2), .int .i64 (y.q 3), .int .i64 (y.q 4), .int .i64 (y.q 5), .int .i64 (y.q 6), .int .i64 (y.q 7)] 154) := by rw [heap_alloc_at]; simp
      have HF6 := hide (first_any sb ma mp lb mb (applyS (remS S' y) y) hI5.out (w5.alloc (.cells #[.int .i64 y.o, .int .i64 y.num, .int .i64 y.c, .int .i64 y.kind, .int .i64 y.tc, .int .i64 y.tk, .int .i32 y.r, .int .i64 (y.q 0), .int .i64 (y.q 1), .int .i64 (y.q 2), .int .i64 (y.q 3), .int .i64 (y.q 4), .int .i64 (y.q 5), .int .i64 (y.q 6), .int .i64 (y.q 7)] 154)) (hS5.grown g6))
      go_wp2_with fail
      refine HF6.out.mono ?_
      rintro e w7 ⟨y7, f7, rfl, g7, hf7⟩
      have k7 := (g7.block _ (lt_of_heap k6) (by simp)).trans k6
      have hs5 : w.heap.size ≤ w5.heap.size := (hF4.trans (hF5.mono (by simp))).size
      have hF7 : Fr (own5 sb ma mp mb) w w7 := ((hF4.trans (hF5.mono (by simp))).grown g6 (by simp)).grown g7 (by simp)
      have hS7 := (hS5.grown g6).grown g7
      generalize w5.heap.size = b6 at k7 hs5 ⊢
      clear k6 HF6 g6 g7 HA
      have p0 : w7.cell? ⟨b6, 0, none⟩ = some (.int .i64 y.o) := cell_blk k7 0
      have p1 : w7.cell? ⟨b6, 1, none⟩ = some (.int .i64 y.num) := cell_blk k7 1
      have p2 : w7.cell? ⟨b6, 2, none⟩ = some (.int .i64 y.c) := cell_blk k7 2
      have p3 : w7.cell? ⟨b6, 3, none⟩ = some (.int .i64 y.kind) := cell_blk k7 3
      have p4 : w7.cell? ⟨b6, 4, none⟩ = some (.int .i64 y.tc) := cell_blk k7 4
      have p5 : w7.cell? ⟨b6, 5, none⟩ = some (.int .i64 y.tk) := cell_blk k7 5
      have p6 : w7.cell? ⟨b6, 6, none⟩ = some (.int .i32 y.r) := cell_blk k7 6
      have p7 : w7.cell? ⟨b6, 7, none⟩ = some (.int .i64 (y.q 0)) := cell_blk k7 7
      have p8 : w7.cell? ⟨b6, 8, none⟩ = some (.int .i64 (y.q 1)) := cell_blk k7 8
      have p9 : w7.cell? ⟨b6, 9, none⟩ = some (.int .i64 (y.q 2)) := cell_blk k7 9
      have p10 : w7.cell? ⟨b6, 10, none⟩ = some (.int .i64 (y.q 3)) := cell_blk k7 10
      have p11 : w7.cell? ⟨b6, 11, none⟩ = some (.int .i64 (y.q 4)) := cell_blk k7 11
      have p12 : w7.cell? ⟨b6, 12, none⟩ = some (.int .i64 (y.q 5)) := cell_blk k7 12
      have p13 : w7.cell? ⟨b6, 13, none⟩ = some (.int .i64 (y.q 6)) := cell_blk k7 13
      have p14 : w7.cell? ⟨b6, 14, none⟩ = some (.int .i64 (y.q 7)) := cell_blk k7 14
      have z0 : w7.frozen? ⟨b6, 0, none⟩ = false := frozen_blk k7 0
      have z1 : w7.frozen? ⟨b6, 1, none⟩ = false := frozen_blk k7 1
      have z2 : w7.frozen? ⟨b6, 2, none⟩ = false := frozen_blk k7 2
      have z3 : w7.frozen? ⟨b6, 3, none⟩ = false := frozen_blk k7 3
      have z4 : w7.frozen? ⟨b6, 4, none⟩ = false := frozen_blk k7 4
      have z5 : w7.frozen? ⟨b6, 5, none⟩ = false := frozen_blk k7 5
      have z6 : w7.frozen? ⟨b6, 6, none⟩ = false := frozen_blk k7 6
      have z7 : w7.frozen? ⟨b6, 7, none⟩ = false := frozen_blk k7 7
      have z8 : w7.frozen? ⟨b6, 8, none⟩ = false := frozen_blk k7 8
      have z9 : w7.frozen? ⟨b6, 9, none⟩ = false := frozen_blk k7 9
      have z10 : w7.frozen? ⟨b6, 10, none⟩ = false := frozen_blk k7 10
      have z11 : w7.frozen? ⟨b6, 11, none⟩ = false := frozen_blk k7 11
      have z12 : w7.frozen? ⟨b6, 12, none⟩ = false := frozen_blk k7 12
      have z13 : w7.frozen? ⟨b6, 13, none⟩ = false := frozen_blk k7 13
      have z14 : w7.frozen? ⟨b6, 14, none⟩ = false := frozen_blk k7 14
      go_wp2_with fail
      have kW := set15 k7 (.int .i64 y7.o) (.int .i64 y7.num) (.int .i64 y7.c) (.int .i64 y7.kind) (.int .i64 y7.tc) (.int .i64 y7.tk) (.int .i32 y7.r) (.int .i64 (y7.q 0)) (.int .i64 (y7.q 1)) (.int .i64 (y7.q 2)) (.int .i64 (y7.q 3)) (.int .i64 (y7.q 4)) (.int .i64 (y7.q 5)) (.int .i64 (y7.q 6)) (.int .i64 (y7.q 7))
      have hFW : Fr (own5 sb ma mp mb) w (((((((((((((((w7.setCell ⟨b6, 0, none⟩ (.int .i64 y7.o)).setCell ⟨b6, 1, none⟩ (.int .i64 y7.num)).setCell ⟨b6, 2, none⟩ (.int .i64 y7.c)).setCell ⟨b6, 3, none⟩ (.int .i64 y7.kind)).setCell ⟨b6, 4, none⟩ (.int .i64 y7.tc)).setCell ⟨b6, 5, none⟩ (.int .i64 y7.tk)).setCell ⟨b6, 6, none⟩ (.int .i32 y7.r)).setCell ⟨b6, 7, none⟩ (.int .i64 (y7.q 0))).setCell ⟨b6, 8, none⟩ (.int .i64 (y7.q 1))).setCell ⟨b6, 9, none⟩ (.int .i64 (y7.q 2))).setCell ⟨b6, 10, none⟩ (.int .i64 (y7.q 3))).setCell ⟨b6, 11, none⟩ (.int .i64 (y7.q 4))).setCell ⟨b6, 12, none⟩ (.int .i64 (y7.q 5))).setCell ⟨b6, 13, none⟩ (.int .i64 (y7.q 6))).setCell ⟨b6, 14, none⟩ (.int .i64 (y7.q 7))) := (((((((((((((((hF7.setCell (.inr (by show w.heap.size ≤ b6; exact hs5)) _).setCell (.inr (by show w.heap.size ≤ b6; exact hs5)) _).setCell (.inr (by show w.heap.size ≤ b6; exact hs5)) _).setCell (.inr (by show w.heap.size ≤ b6; exact hs5)) _).setCell (.inr (by show w.heap.size ≤ b6; exact hs5)) _).setCell (.inr (by show w.heap.size ≤ b6; exact hs5)) _).setCell (.inr (by show w.heap.size ≤ b6; exact hs5)) _).setCell (.inr (by show w.heap.size ≤ b6; exact hs5)) _).setCell (.inr (by show w.heap.size ≤ b6; exact hs5)) _).setCell (.inr (by show w.heap.size ≤ b6; exact hs5)) _).setCell (.inr (by show w.heap.size ≤ b6; exact hs5)) _).setCell (.inr (by show w.heap.size ≤ b6; exact hs5)) _).setCell (.inr (by show w.heap.size ≤ b6; exact hs5)) _).setCell (.inr (by show w.heap.size ≤ b6; exact hs5)) _).setCell (.inr (by show w.heap.size ≤ b6; exact hs5)) _)
      have hSW : StAt sb ma mp lb mb (applyS (remS S' y) y) (((((((((((((((w7.setCell ⟨b6, 0, none⟩ (.int .i64 y7.o)).setCell ⟨b6, 1, none⟩ (.int .i64 y7.num)).setCell ⟨b6, 2, none⟩ (.int .i64 y7.c)).setCell ⟨b6, 3, none⟩ (.int .i64 y7.kind)).setCell ⟨b6, 4, none⟩ (.int .i64 y7.tc)).setCell ⟨b6, 5, none⟩ (.int .i64 y7.tk)).setCell ⟨b6, 6, none⟩ (.int .i32 y7.r)).setCell ⟨b6, 7, none⟩ (.int .i64 (y7.q 0))).setCell ⟨b6, 8, none⟩ (.int .i64 (y7.q 1))).setCell ⟨b6, 9, none⟩ (.int .i64 (y7.q 2))).setCell ⟨b6, 10, none⟩ (.int .i64 (y7.q 3))).setCell ⟨b6, 11, none⟩ (.int .i64 (y7.q 4))).setCell ⟨b6, 12, none⟩ (.int .i64 (y7.q 5))).setCell ⟨b6, 13, none⟩ (.int .i64 (y7.q 6))).setCell ⟨b6, 14, none⟩ (.int .i64 (y7.q 7))) := hS7.kept (fun k hk => (by
        have hk1 := hlt k hk
        have hne : k ≠ b6 := by omega
        rw [Below.heap_setCell _ _ _ _ hne, Below.heap_setCell _ _ _ _ hne, Below.heap_setCell _ _ _ _ hne, Below.heap_setCell _ _ _ _ hne, Below.heap_setCell _ _ _ _ hne, Below.heap_setCell _ _ _ _ hne, Below.heap_setCell _ _ _ _ hne, Below.heap_setCell _ _ _ _ hne, Below.heap_setCell _ _ _ _ hne, Below.heap_setCell _ _ _ _ hne, Below.heap_setCell _ _ _ _ hne, Below.heap_setCell _ _ _ _ hne, Below.heap_setCell _ _ _ _ hne, Below.heap_setCell _ _ _ _ hne, Below.heap_setCell _ _ _ _ hne]))
      generalize (((((((((((((((w7.setCell ⟨b6, 0, none⟩ (.int .i64 y7.o)).setCell ⟨b6, 1, none⟩ (.int .i64 y7.num)).setCell ⟨b6, 2, none⟩ (.int .i64 y7.c)).setCell ⟨b6, 3, none⟩ (.int .i64 y7.kind)).setCell ⟨b6, 4, none⟩ (.int .i64 y7.tc)).setCell ⟨b6, 5, none⟩ (.int .i64 y7.tk)).setCell ⟨b6, 6, none⟩ (.int .i32 y7.r)).setCell ⟨b6, 7, none⟩ (.int .i64 (y7.q 0))).setCell ⟨b6, 8, none⟩ (.int .i64 (y7.q 1))).setCell ⟨b6, 9, none⟩ (.int .i64 (y7.q 2))).setCell ⟨b6, 10, none⟩ (.int .i64 (y7.q 3))).setCell ⟨b6, 11, none⟩ (.int .i64 (y7.q 4))).setCell ⟨b6, 12, none⟩ (.int .i64 (y7.q 5))).setCell ⟨b6, 13, none⟩ (.int .i64 (y7.q 6))).setCell ⟨b6, 14, none⟩ (.int .i64 (y7.q 7))) = w8 at kW hFW hSW ⊢
      go_roundg (applyS (remS S' y) y).wt.length
      case measure => omega
      case rel => exact ⟨applyS (remS S' y) y, y7, f7, b6, rfl, rfl, rfl, hs5, kW, hide ⟨hSW, hI5.out, hf7.1, hf7.2, hdr5.out⟩, hide hFW⟩

end Go.Proofs.YtachmkhbbbmioaaGreat

import Derived.RangeFuncNested
import Derived.RangeFuncBound
import Derived.RangeFuncCalls
import Derived.RangeFuncLeaves
import Derived.Shelf.Abstract
import Derived.Shelf.RegionOpen
import Derived.WalkKit
import Derived.OwnWalkIn
import Derived.TacticsInMore
import Derived.LoopNIn
import Derived.LoopIn
import Derived.Deep.RegionHeld3
import Derived.Deep.DrawnRows
import Derived.Deep.DeepCutAuto
import Derived.Deep.LoopGhost
import Derived.Deep.Light
import Derived.BigRegion
import Derived.Test.YtachmkhbbbmioaaGreatOpAX
namespace Go.Proofs.YtachmkhbbbmioaaGreat
open Go.RowKit Go.Shelf
attribute [local go_sem ↓] Go.wp_at_zero Go.wp_at_succ
attribute [local simp] entsAt_drew entsAt_setCell entsAt_alloc

/-- What a range over the elements hands to its body: the mark and the rune. -/
def encs (x : El) : Array Value := #[.agg #[.int .i64 x.c, .int .i64 x.k], .int .i32 x.r]

theorem lookZ (E : List Ent) (w : World) (b : Nat) (h : entsAt w b E) (c k : Int) : (Instr.lookup 204 (.map (some b)) (.agg #[.int .i64 c, .int .i64 k]) false).run Tryz.prog w = .ok ((look c k E).getD (ev 0 false 0 0)) w :=
  run_lookup keyMark (fun w => Tryz.zeroValue203 w) h c k

theorem fieldNext (w : World) (r : Int) (d : Bool) (a b : Int) : (Instr.field 203 (.agg #[.int .i32 r, .bool d, .int .i64 a, .int .i64 b]) 2).run Tryz.prog w = .ok (.agg #[.int .i64 a, .int .i64 b]) w := by kernel_rfl

theorem neqMark (w : World) (a b c d : Int) : (binOp .neq 152 (.agg #[.int .i64 a, .int .i64 b]) (.agg #[.int .i64 c, .int .i64 d])).run Tryz.prog w = .ok (.bool (!(a == c && b == d))) w := by
  rw [run_neq_struct]
  have := eqMark w a b c d
  simp only [pr] at this
  show ((Op.equal 152 _ _).run Tryz.prog w).andThen _ = _
  rw [this]; rfl

theorem grown_refl (w : World) : w.grownBy w none := ⟨rfl, rfl, rfl, Nat.le_refl _, fun _ _ _ => rfl⟩
theorem grown_alloc {a w : World} (h : a.grownBy w none) (o : Obj) : a.grownBy (w.alloc o) none :=
  ⟨h.os, h.tape, h.output, by have := h.size; simp; omega, fun k hk e => (Below.heap_alloc _ _ _ (by have := h.size; omega)).trans (h.block k hk e)⟩
theorem grown_drew {a w : World} (h : a.grownBy w none) : a.grownBy w.drew none := ⟨h.os, h.tape, h.output, h.size, h.block⟩
theorem grown_trans {a b c : World} (h : a.grownBy b none) (k : b.grownBy c none) : a.grownBy c none :=
  ⟨k.os.trans h.os, k.tape.trans h.tape, k.output.trans h.output, Nat.le_trans h.size k.size, fun i hi e => (k.block i (Nat.lt_of_lt_of_le hi h.size) e).trans (h.block i hi e)⟩

theorem heap_alloc_at (w : World) (o : Obj) (k : Nat) : (w.alloc o).heap[k]? = if k = w.heap.size then some o else w.heap[k]? := by
  show (w.heap.push o)[k]? = _
  rw [Array.getElem?_push]
theorem heap_drew (w : World) : w.drew.heap = w.heap := rfl

/-- What the iterator reads between two rounds. -/
def keepT : Obj → Bool
  | .cells _ e _ => e == 152 || e == 203 || e == 136 || e == 206
  | .map _ _ => true
  | _ => false

/-- What a round of a range over the elements keeps: maps, marks, elements, lines and what leads to one. -/
structure Kpt (w w' : World) : Prop where
  size : w.heap.size ≤ w'.heap.size
  same : ∀ (k : Nat) (o : Obj), w.heap[k]? = some o → keepT o = true → w'.heap[k]? = some o

structure It (Bl lb mb : Nat) (E : List Ent) (w : World) : Prop where
  box : w.heap[Bl]? = some (.cells #[.pointer (some ⟨lb, 0, none⟩)] 136)
  line : w.heap[lb]? = some (.cells #[.map (some mb)] 206)
  ents : entsAt w mb E

theorem lt_of_heap {w : World} {k : Nat} {o : Obj} (h : w.heap[k]? = some o) : k < w.heap.size := (Array.getElem?_eq_some_iff.1 h).1

theorem It.cellB {Bl lb mb : Nat} {E : List Ent} {w : World} (h : It Bl lb mb E w) : w.cell? ⟨Bl, 0, none⟩ = some (.pointer (some ⟨lb, 0, none⟩)) := by simp [World.cell?, h.box]
theorem It.cellL {Bl lb mb : Nat} {E : List Ent} {w : World} (h : It Bl lb mb E w) : w.cell? ⟨lb, 0, none⟩ = some (.map (some mb)) := by simp [World.cell?, h.line]
theorem It.grown {Bl lb mb : Nat} {E : List Ent} {w w' : World} (h : It Bl lb mb E w) (g : w.grownBy w' none) : It Bl lb mb E w' :=
  ⟨(g.block _ (lt_of_heap h.box) (by simp)).trans h.box, (g.block _ (lt_of_heap h.line) (by simp)).trans h.line, h.ents.of_block (g.block _ h.ents.lt (by simp))⟩
theorem blk_grown {k : Nat} {o : Obj} {w w' : World} (h : w.heap[k]? = some o) (g : w.grownBy w' none) : w'.heap[k]? = some o := (g.block _ (lt_of_heap h) (by simp)).trans h
theorem cell_blk {w : World} {b : Nat} {c : Array Value} {e : TypeId} {f : Nat × Nat} (h : w.heap[b]? = some (.cells c e f)) (i : Nat) : w.cell? ⟨b, i, none⟩ = c[i]? := by simp [World.cell?, h]
theorem cell_alloc' {w : World} {a : Addr} {v : Value} (o : Obj) (h : w.cell? a = some v) : (w.alloc o).cell? a = some v := (World.cell?_of_block (Below.heap_alloc w o a.block (World.block_lt_of_cell? w a h))).trans h
theorem It.kpt {Bl lb mb : Nat} {E : List Ent} {w w' : World} (h : It Bl lb mb E w) (g : Kpt w w') : It Bl lb mb E w' :=
  ⟨g.same _ _ h.box rfl, g.same _ _ h.line rfl, by obtain ⟨clk, he⟩ := h.ents; exact ⟨clk, g.same _ _ he rfl⟩⟩

set_option maxRecDepth 100000 in
set_option maxHeartbeats 2000000 in
theorem there1_any (l Bl lb mb : Nat) (E : List Ent) (L : List El) (Iv Ivx : List El → World → Prop) (n : Nat) (hn : 1 ≤ n) (W : World) (hI : It Bl lb mb E W) (hL : LineIs E L)
    (hIv : AbidesFrom W.heap.size Iv)
    (hY : ∀ pre x W, Iv pre W → pre.length < (vis L).length → YieldAt Fence.wide (n - 1) Tryz.prog l (encs x) W fun e W' =>
      (e = .returned (.bool true) ∧ Iv (pre ++ [x]) W' ∧ Kpt W W') ∨ (e = .returned (.bool false) ∧ Ivx (pre ++ [x]) W'))
    (h0 : Iv [] W) :
    Calls Tryz.prog 147 #[.func (.yield l) #[] #[], .pointer (some ⟨Bl, 0, none⟩)] W fun e W' => (∃ v, e = .returned v) ∧
      ((∃ ys, ys = vis L ∧ Iv ys W') ∨ (∃ pre, pre <+: vis L ∧ Ivx pre W')) := by
  have hB := hI.cellB
  have hl := hI.cellL
  have hE := hI.ents
  have n1 := World.new_ne W _ hB
  have n2 := World.new_ne W _ hl
  have hlk := fun w' (h : entsAt w' mb E) => lookZ E w' mb h 0 0
  rw [hL.begin] at hlk
  simp only [Option.getD_some, ev] at hlk
  have hfn := fieldNext
  go_enter Tryz.func147, Tryz.ntmps147
  go_upto_region 0 with fail
  go_cut [3] (fun s3 wx => ∃ b : Nat, s3 = .pointer (some ⟨b, 0, none⟩) ∧ wx.heap[b]? = some (.cells #[.int .i64 (hdc L), .int .i64 (hdk L)] 152) ∧ W.grownBy wx none)
  case first =>
    go_region_held3 (fun w' => w'.cell? ⟨Bl, 0, none⟩ = some (.pointer (some ⟨lb, 0, none⟩)) ∧ w'.cell? ⟨lb, 0, none⟩ = some (.map (some mb)) ∧ entsAt w' mb E) (go_keep)
      (first | (go_at_call 107; refine (beginning_any _).mono ?_; rintro e w' ⟨rfl, rfl⟩))
    all_goals (go_wp2_with fail; go_meet)
    all_goals exact ⟨_, rfl, by simp only [heap_drew, heap_alloc_at, World.size_alloc]; simp, by repeat (first | exact grown_refl _ | refine grown_drew ?_ | refine grown_alloc ?_ _)⟩
  case rest =>
  obtain ⟨b, rfl, hb, hg⟩ := hcut
  have hI0 := hI.grown hg
  have hJ0 : Iv [] wc := hIv [] W wc none h0 hg (by simp)
  have hs0 := hg.size
  clear n1 n2 hB hl hE hlk hI h0 hg
  go_wp2_with fail
  go_loopg [3] L.length (fun g s3 wr => ∃ (b : Nat) (pre rest : List El), s3 = .pointer (some ⟨b, 0, none⟩) ∧ L = pre ++ rest ∧ g = rest.length ∧ wr.heap[b]? = some (.cells #[.int .i64 (hdc rest), .int .i64 (hdk rest)] 152) ∧ It Bl lb mb E wr ∧ Iv (vis pre) wr ∧ W.heap.size ≤ wr.heap.size)
  case atStart => exact ⟨b, [], L, rfl, rfl, rfl, hb, hI0, hJ0, hs0⟩
  case round =>
    clear hb hI0 hJ0 hs0
    obtain ⟨b, pre, rest, rfl, hLr, hgk, hb, hI, hJ, hs⟩ := hrel
    have hmark : wr.cell? ⟨b, 0, none⟩ = some (.int .i64 (hdc rest)) := by simp [World.cell?, hb]
    have hmark' : wr.cell? ⟨b, 1, none⟩ = some (.int .i64 (hdk rest)) := by simp [World.cell?, hb]
    have n3 := World.new_ne wr _ hmark
    cases rest with
    | nil =>
      simp only [hdc, hdk] at hmark hmark'
      go_wp2_with fail
      go_region_held3 (fun w' => w'.cell? ⟨b, 0, none⟩ = some (.int .i64 0) ∧ w'.cell? ⟨b, 1, none⟩ = some (.int .i64 0)) (go_keep)
        (first | (go_at_call 107; refine (beginning_any _).mono ?_; rintro e w' ⟨rfl, rfl⟩))
      go_wp2_with fail
      go_end0
      have hpre : L = pre := by simpa using hLr
      refine ⟨⟨_, rfl⟩, .inl ⟨vis pre, by rw [hpre], ?_⟩⟩
      exact hIv _ wr _ none hJ (by repeat (first | exact grown_refl _ | refine grown_drew ?_ | refine grown_alloc ?_ _)) (by simp)
    | cons x rest =>
      simp only [hdc, hdk] at hmark hmark' hb
      have hch : chain E (x :: rest) := by
        have := hL.chain; rw [hLr] at this
        clear hLr hgk hJ hb hmark hmark' n3
        induction pre with
        | nil => exact this
        | cons y p ih => exact ih this.2.2
      obtain ⟨hx1, hx2, hch'⟩ := hch
      have hne : (x.c == 0 && x.k == 0) = false := by
        cases h : (x.c == 0 && x.k == 0) with
        | false => rfl
        | true => exact (hx2 (by simpa using h)).elim
      have HX : Hid (L = pre ++ x :: rest ∧ gk = (x :: rest).length) := ⟨hLr, hgk⟩
      clear hLr hgk hx2
      have hneq : ∀ w, (binOp .neq 152 (.agg #[.int .i64 x.c, .int .i64 x.k]) (.agg #[.int .i64 0, .int .i64 0])).run Tryz.prog w = .ok (.bool true) w := fun w => by rw [neqMark, hne]; rfl
      go_wp2_with fail
      go_region_held3 (fun w' => w'.cell? ⟨b, 0, none⟩ = some (.int .i64 x.c) ∧ w'.cell? ⟨b, 1, none⟩ = some (.int .i64 x.k)) (go_keep)
        (first | (go_at_call 107; refine (beginning_any _).mono ?_; rintro e w' ⟨rfl, rfl⟩))
      go_wp2_with fail
      have g1 : wr.grownBy (wr.alloc (.cells #[.int .i64 0, .int .i64 0] 152)).drew none := grown_drew (grown_alloc (grown_refl _) _)
      generalize (wr.alloc (.cells #[.int .i64 0, .int .i64 0] 152)).drew = w1 at g1 ⊢
      have hI1 := hI.grown g1
      have hJ1 : Iv (vis pre) w1 := hIv _ wr _ none hJ g1 (by simp)
      have hb1 := blk_grown hb g1
      have hs1 : W.heap.size ≤ w1.heap.size := Nat.le_trans hs g1.size
      clear hneq hne n3 hmark hmark' hI hJ hb hs g1
      have c1 := hI1.cellB
      have c2 := hI1.cellL
      have c3 := hI1.ents
      have c4 : w1.cell? ⟨b, 0, none⟩ = some (.int .i64 x.c) := cell_blk hb1 0
      have c5 : w1.cell? ⟨b, 1, none⟩ = some (.int .i64 x.k) := cell_blk hb1 1
      have n1 := World.new_ne w1 _ c1
      have n2 := World.new_ne w1 _ c2
      have n3 := World.new_ne w1 _ c4
      have hlk := fun w' (h : entsAt w' mb E) => lookZ E w' mb h x.c x.k
      rw [hx1] at hlk
      simp only [Option.getD_some, ev] at hlk
      go_cut [4] (fun s4 wx => ∃ b4 : Nat, s4 = .pointer (some ⟨b4, 0, none⟩) ∧ wx.heap[b4]? = some (.cells #[.int .i32 x.r, .bool x.d, .int .i64 (hdc rest), .int .i64 (hdk rest)] 203) ∧ w1.grownBy wx none)
      case first =>
        go_region_held3 (fun w' => w'.cell? ⟨Bl, 0, none⟩ = some (.pointer (some ⟨lb, 0, none⟩)) ∧ w'.cell? ⟨lb, 0, none⟩ = some (.map (some mb)) ∧ entsAt w' mb E ∧ w'.cell? ⟨b, 0, none⟩ = some (.int .i64 x.c) ∧ w'.cell? ⟨b, 1, none⟩ = some (.int .i64 x.k)) (go_keep) (fail)
        all_goals (go_wp2_with fail; go_meet)
        all_goals exact ⟨_, rfl, by simp only [heap_drew, heap_alloc_at]; simp, by repeat (first | exact grown_refl _ | refine grown_drew ?_ | refine grown_alloc ?_ _)⟩
      case rest =>
      obtain ⟨b4, rfl, hb4, g2⟩ := hcut
      have hI2 := hI1.grown g2
      have hJ2 : Iv (vis pre) wc := hIv _ w1 _ none hJ1 g2 (by simp)
      have hb2 := blk_grown hb1 g2
      have hs2 : W.heap.size ≤ wc.heap.size := Nat.le_trans hs1 g2.size
      clear hlk n1 n2 n3 c1 c2 c3 c4 c5 hI1 hJ1 hb1 hs1 g2
      have e1 : wc.cell? ⟨b4, 0, none⟩ = some (.int .i32 x.r) := cell_blk hb4 0
      have e2 : wc.cell? ⟨b4, 1, none⟩ = some (.bool x.d) := cell_blk hb4 1
      have c4 : wc.cell? ⟨b, 0, none⟩ = some (.int .i64 x.c) := cell_blk hb2 0
      have c5 : wc.cell? ⟨b, 1, none⟩ = some (.int .i64 x.k) := cell_blk hb2 1
      cases hxd : x.d with
      | true =>
        rw [hxd] at e2
        have hJ3 : Iv (vis (pre ++ [x])) wc := by rw [vis_append, vis_cons_gone hxd]; simpa [vis] using hJ2
        have hI3 := hI2
        have hs3 := hs2
        clear hJ2 hI2 hs2 hb4 hb2
        generalize hw3 : wc = w3 at *
        clear hw3 hxd
        have m1 := cell_alloc' (.cells #[.int .i64 x.c, .int .i64 x.k] 152) hI3.cellB
        have m2 := cell_alloc' (.cells #[.int .i64 x.c, .int .i64 x.k] 152) hI3.cellL
        have m3 := hI3.ents
        have hlk := fun w' (h : entsAt w' mb E) => lookZ E w' mb h x.c x.k
        rw [hx1] at hlk
        simp only [Option.getD_some, ev] at hlk
        go_wp2_with fail
        go_region
        all_goals go_wp2_with fail
        all_goals go_roundg rest.length
        case measure => have := HX.out.2; simp at this; omega
        case rel =>
          have g3 : w3.grownBy (w3.alloc (.cells #[.int .i64 (hdc rest), .int .i64 (hdk rest)] 152)).drew none := grown_drew (grown_alloc (grown_refl _) _)
          exact ⟨_, pre ++ [x], rest, rfl, by rw [HX.out.1]; simp, rfl, by simp only [heap_drew, heap_alloc_at]; simp, hI3.grown g3, hIv _ w3 _ none hJ3 g3 (by simp), Nat.le_trans hs3 g3.size⟩
      | false =>
        rw [hxd] at e2
        have hv : vis L = vis pre ++ x :: vis rest := by rw [HX.out.1, vis_append, vis_cons_there hxd]
        obtain ⟨fn, tmps, assign, body, hy, hR⟩ := hY (vis pre) x wc hJ2 (by rw [hv]; simp)
        have HV : Hid (vis L = vis pre ++ x :: vis rest) := hv
        have HD : Hid (x.d = false) := hxd
        clear hv hxd
        simp only [encs] at hy
        go_upto_region 4 with fail
        refine (wpIn_wide (n := n)).1 ?_
        gi_wp2
        refine hR.mono ?_
        rintro e w3 (⟨rfl, hJ3', hk3⟩ | ⟨rfl, hx3⟩)
        · have hI3 := hI2.kpt hk3
          have hs3 : W.heap.size ≤ w3.heap.size := Nat.le_trans hs2 hk3.size
          have hJ3 : Iv (vis (pre ++ [x])) w3 := by
            have := vis_append pre [x]
            rw [this]
            have h2 : vis [x] = [x] := by rw [vis_cons_there HD.out]; rfl
            rw [h2]; exact hJ3'
          have k4 : w3.cell? ⟨b, 0, none⟩ = some (.int .i64 x.c) := cell_blk (hk3.same _ _ hb2 rfl) 0
          have k5 : w3.cell? ⟨b, 1, none⟩ = some (.int .i64 x.k) := cell_blk (hk3.same _ _ hb2 rfl) 1
          clear hJ2 hI2 hs2 hb4 hb2 e1 e2 c4 c5 hy hR hJ3' hk3
          gi_wp2
          have m1 := cell_alloc' (.cells #[.int .i64 x.c, .int .i64 x.k] 152) hI3.cellB
          have m2 := cell_alloc' (.cells #[.int .i64 x.c, .int .i64 x.k] 152) hI3.cellL
          have m3 := hI3.ents
          have hlk := fun w' (h : entsAt w' mb E) => lookZ E w' mb h x.c x.k
          rw [hx1] at hlk
          simp only [Option.getD_some, ev] at hlk
          go_wp2_with fail
          go_region
          all_goals go_wp2_with fail
          all_goals go_roundg rest.length
          case measure => have := HX.out.2; simp at this; omega
          case rel =>
            have g3 : w3.grownBy (w3.alloc (.cells #[.int .i64 (hdc rest), .int .i64 (hdk rest)] 152)).drew none := grown_drew (grown_alloc (grown_refl _) _)
            exact ⟨_, pre ++ [x], rest, rfl, by rw [HX.out.1]; simp, rfl, by simp only [heap_drew, heap_alloc_at]; simp, hI3.grown g3, hIv _ w3 _ none hJ3 g3 (by simp), Nat.le_trans hs3 g3.size⟩
        · gi_wp2
          go_wp2_with fail
          refine bodyPost_ret (results_none rfl _ _ _) rfl ?_
          exact ⟨⟨_, rfl⟩, .inr ⟨vis pre ++ [x], ⟨vis rest, by rw [HV.out]; simp⟩, hx3⟩⟩

theorem It.below {Bl lb mb : Nat} {E : List Ent} {w w' : World} (h : It Bl lb mb E w) (g : Below w.heap.size w w') : It Bl lb mb E w' :=
  ⟨(g.block _ (lt_of_heap h.box)).trans h.box, (g.block _ (lt_of_heap h.line)).trans h.line, h.ents.of_block (g.block _ h.ents.lt)⟩

theorem there_stops (n : Nat) (hn : 1 ≤ n) (Bl lb mb : Nat) (E : List Ent) (L : List El) (w : World) (hI : It Bl lb mb E w) (hL : LineIs E L) :
    SeqStopsK Fence.wide n Tryz.prog 147 #[.pointer (some ⟨Bl, 0, none⟩)] encs Kpt (fun ys => ys = vis L) (fun pre => pre <+: vis L) (vis L).length w :=
  fun l Iv Ivx W hW hIv _ hY h0 => callsIn_wide.2 (there1_any l Bl lb mb E L Iv Ivx n hn W (hI.below hW) hL hIv hY h0)

theorem kpt_t {X Y Z : World} (h : Kpt X Y) (k : Kpt Y Z) : Kpt X Z := ⟨Nat.le_trans h.size k.size, fun i o hi ho => k.same i o (h.same i o hi ho) ho⟩
theorem kpt_b (w W : World) (l : Nat) (o o' : Obj) (_ : w.heap.size ≤ l) (h : W.heap[l]? = some o) (hc : o.isCells = false) (hw : o.isWalk = false) : Kpt W (W.putObj l o') := by
  refine ⟨by simp, fun k ok hk ht => ?_⟩
  by_cases e : k = l
  · subst e
    rw [h] at hk
    cases hk
    cases o <;> simp_all [keepT, Obj.isCells, Obj.isWalk]
  · rw [World.putObj_heap_other e]; exact hk
theorem Kpt.refl (w : World) : Kpt w w := ⟨Nat.le_refl _, fun _ _ h _ => h⟩
theorem Kpt.grown {w w' : World} (g : w.grownBy w' none) : Kpt w w' := ⟨g.size, fun _ _ h _ => blk_grown h g⟩
/-- A store into a box of another type. -/
theorem Kpt.setCell {w : World} {b : Nat} {c : Array Value} {e : TypeId} {f : Nat × Nat} (h : w.heap[b]? = some (.cells c e f)) (he : keepT (.cells c e f) = false) (i : Nat) (v : Value) : Kpt w (w.setCell ⟨b, i, none⟩ v) := by
  refine ⟨by simp [World.setCell], fun k o hk ht => ?_⟩
  by_cases e : k = b
  · subst e
    rw [h] at hk; cases hk
    rw [he] at ht; cases ht
  · rw [Below.heap_setCell _ _ _ _ e]; exact hk

theorem there_any (lb : Nat) (w : World) :
    Calls Tryz.prog 119 #[.pointer (some ⟨lb, 0, none⟩)] w fun e w' => e = .returned (.func (.func 147) #[] #[.pointer (some ⟨w.heap.size, 0, none⟩)]) ∧ w' = w.alloc (.cells #[.pointer (some ⟨lb, 0, none⟩)] 136) := by
  have hmf : ∀ (fn : Fn) (first cap : Array Value) (w : World), (Instr.makeFunc fn first cap).run Tryz.prog w = .ok (.func fn first cap) w := fun _ _ _ _ => rfl
  go_enter Tryz.func119, Tryz.ntmps119
  go_wp2
  go_ret
  exact ⟨rfl, rfl⟩

end Go.Proofs.YtachmkhbbbmioaaGreat

import Derived.Test.YtachmkhbbbmioaaGreatFrAX
import Derived.Test.YtachmkhbbbmioaaGreatRefVX
namespace Go.Proofs.YtachmkhbbbmioaaGreat
open Go.RowKit Go.Shelf

theorem infoStr : (Tryz.prog.info? 9).map (fun i => (i.zero, i.size, i.bytes)) = some (some (.string ⟨#[]⟩), 1, 16) := by kernel_rfl

def strRow (l : List (List UInt8)) : List (List Value) := l.map fun b => [str b]
theorem strRow_len (l : List (List UInt8)) : (strRow l).length = l.length := by simp [strRow]
theorem strRow_append (a b : List (List UInt8)) : strRow (a ++ b) = strRow a ++ strRow b := by simp [strRow]
theorem strRow_one (l : List (List UInt8)) : ∀ y ∈ strRow l, y.length = 1 := by
  intro y hy
  obtain ⟨x, -, rfl⟩ := List.mem_map.1 hy
  rfl
theorem strRow_cell (l : List (List UInt8)) : ∀ y ∈ strRow l, ∀ c ∈ y, c.oneCell' = true := by
  intro y hy c hc
  obtain ⟨x, -, rfl⟩ := List.mem_map.1 hy
  simp only [List.mem_cons, List.not_mem_nil, or_false] at hc
  rw [hc]; rfl

/-- The program's operations in a list. -/
def opRow (l : List OpR) : List (List Value) := l.map fun x => x.arr.toList
theorem opRow_len (l : List OpR) : (opRow l).length = l.length := by simp [opRow]
theorem opRow_one (l : List OpR) : ∀ y ∈ opRow l, y.length = 15 := by
  intro y hy
  obtain ⟨x, -, rfl⟩ := List.mem_map.1 hy
  rfl
theorem opRow_cell (l : List OpR) : ∀ y ∈ opRow l, ∀ c ∈ y, c.oneCell' = true := by
  intro y hy c hc
  obtain ⟨x, -, rfl⟩ := List.mem_map.1 hy
  simp only [OpR.arr, opArr, List.mem_cons, List.not_mem_nil, or_false] at hc
  rcases hc with rfl | rfl | rfl | rfl | rfl | rfl | rfl | rfl | rfl | rfl | rfl | rfl | rfl | rfl | rfl <;> rfl

theorem packs_cons (n : Nat) (some : List OpR) (x : OpR) (l : List OpR) : packs n some (x :: l) = if 114 < (some.flatMap (OpR.bytes n)).length + (x.bytes n).length then some :: packs n [x] l else packs n (some ++ [x]) l := rfl
theorem drop_at {l : List OpR} {i : Nat} {x : OpR} (h : l[i]? = some x) : l.drop i = x :: l.drop (i + 1) := by
  obtain ⟨hlt, hx⟩ := List.getElem?_eq_some_iff.1 h
  rw [List.drop_eq_getElem_cons hlt, hx]

theorem bytes_pos (n : Nat) (x : OpR) : 0 < (x.bytes n).length := by
  have := vb_pos x.o.toNat
  unfold OpR.bytes OpR.nums
  simp only [List.cons_append, List.length_append, vbs]
  omega

set_option maxRecDepth 100000 in
set_option maxHeartbeats 4000000 in
theorem writeBsP (n : Nat) (h8 : n ≤ 8) (l : List OpR) (hl : l.length ≤ 1000) (hok : ∀ x ∈ l, OpOk n x) (v : Value) (w : World) (hv : RowAt 154 15 v (opRow l) w) :
    Calls Tryz.prog 88 #[.int .i64 n, v] w fun e w' => ∃ v', e = .returned v' ∧ RowAt 9 1 v' (strRow (answers n l)) w' ∧ w.grownBy w' none ∧ (∀ g, v'.ownBlock = some g → w.heap.size ≤ g) := by
  obtain ⟨av, cv, rfl, -⟩ := hv.value
  rw [opRow_len] at hv ⊢
  go_enter Tryz.func88, Tryz.ntmps88
  go_wp2_with fail
  go_loopg [5, 6, 7, 13] l.length (fun gk s5 s6 s7 s13 wr => ∃ (i : Nat) (out : List (List UInt8)) (some : List OpR), s13 = .int .i64 i ∧ i ≤ l.length ∧ gk = l.length - i ∧ s7 = .int .i64 some.length ∧ some.length ≤ i ∧ (∀ x ∈ some, OpOk n x) ∧ out.length ≤ i ∧
    Hid (out ++ (packs n some (l.drop i)).map (batch n) = answers n l) ∧ RowAt 9 1 s5 (strRow out) wr ∧ RowAt 5 1 s6 (byRow (some.flatMap (OpR.bytes n))) wr ∧ w.grownBy wr none ∧ (∀ g, s5.ownBlock = .some g → w.heap.size ≤ g) ∧ (∀ g, s6.ownBlock = .some g → w.heap.size ≤ g))
  case atStart => exact ⟨0, [], [], rfl, by omega, rfl, rfl, by simp, by simp, by simp, hide (by simp [answers]), row_nil _ _ _, row_nil _ _ _, grown_refl _, by simp [Value.ownBlock], by simp [Value.ownBlock]⟩
  case round =>
    obtain ⟨i, out, some, rfl, hil, hgk, rfl, hsl, hso, hol, hP, hR5, hR6, hG, hO5, hO6⟩ := hrel
    by_cases hlt : i < l.length
    · have hli : (i : Int) < (l.length : Int) := by omega
      obtain ⟨x, hx⟩ : ∃ x, l[i]? = .some x := ⟨l[i], by simp [hlt]⟩
      have hxo := hok x (List.mem_of_getElem? hx)
      obtain ⟨gv, cv', cur, hv', -, hb, hc⟩ := (hv.grown hG).cell (i := i) (x := x.arr.toList) (by simp [opRow, hx])
      rw [opRow_len] at hv'
      cases hv'
      have r0 : wr.cell? ⟨gv, i * 15, none⟩ = .some (.int .i64 x.o) := (cell_blk hb _).trans (hc 0 _ rfl)
      have r1 : wr.cell? ⟨gv, i * 15 + 1, none⟩ = .some (.int .i64 x.num) := (cell_blk hb _).trans (hc 1 _ rfl)
      have r2 : wr.cell? ⟨gv, i * 15 + 2, none⟩ = .some (.int .i64 x.c) := (cell_blk hb _).trans (hc 2 _ rfl)
      have r3 : wr.cell? ⟨gv, i * 15 + 3, none⟩ = .some (.int .i64 x.kind) := (cell_blk hb _).trans (hc 3 _ rfl)
      have r4 : wr.cell? ⟨gv, i * 15 + 4, none⟩ = .some (.int .i64 x.tc) := (cell_blk hb _).trans (hc 4 _ rfl)
      have r5 : wr.cell? ⟨gv, i * 15 + 5, none⟩ = .some (.int .i64 x.tk) := (cell_blk hb _).trans (hc 5 _ rfl)
      have r6 : wr.cell? ⟨gv, i * 15 + 6, none⟩ = .some (.int .i32 x.r) := (cell_blk hb _).trans (hc 6 _ rfl)
      have r7 : wr.cell? ⟨gv, i * 15 + 7, none⟩ = .some (.int .i64 (x.q 0)) := (cell_blk hb _).trans (hc 7 _ rfl)
      have r8 : wr.cell? ⟨gv, i * 15 + 8, none⟩ = .some (.int .i64 (x.q 1)) := (cell_blk hb _).trans (hc 8 _ rfl)
      have r9 : wr.cell? ⟨gv, i * 15 + 9, none⟩ = .some (.int .i64 (x.q 2)) := (cell_blk hb _).trans (hc 9 _ rfl)
      have r10 : wr.cell? ⟨gv, i * 15 + 10, none⟩ = .some (.int .i64 (x.q 3)) := (cell_blk hb _).trans (hc 10 _ rfl)
      have r11 : wr.cell? ⟨gv, i * 15 + 11, none⟩ = .some (.int .i64 (x.q 4)) := (cell_blk hb _).trans (hc 11 _ rfl)
      have r12 : wr.cell? ⟨gv, i * 15 + 12, none⟩ = .some (.int .i64 (x.q 5)) := (cell_blk hb _).trans (hc 12 _ rfl)
      have r13 : wr.cell? ⟨gv, i * 15 + 13, none⟩ = .some (.int .i64 (x.q 6)) := (cell_blk hb _).trans (hc 13 _ rfl)
      have r14 : wr.cell? ⟨gv, i * 15 + 14, none⟩ = .some (.int .i64 (x.q 7)) := (cell_blk hb _).trans (hc 14 _ rfl)
      go_upto_region 7 with fail
      have g1 : wr.grownBy (wr.alloc (.cells #[.int .i64 x.o, .int .i64 x.num, .int .i64 x.c, .int .i64 x.kind, .int .i64 x.tc, .int .i64 x.tk, .int .i32 x.r, .int .i64 (x.q 0), .int .i64 (x.q 1), .int .i64 (x.q 2), .int .i64 (x.q 3), .int .i64 (x.q 4), .int .i64 (x.q 5), .int .i64 (x.q 6), .int .i64 (x.q 7)] 154)) none := grown_alloc (grown_refl _) _
      have k1 : (wr.alloc (.cells #[.int .i64 x.o, .int .i64 x.num, .int .i64 x.c, .int .i64 x.kind, .int .i64 x.tc, .int .i64 x.tk, .int .i32 x.r, .int .i64 (x.q 0), .int .i64 (x.q 1), .int .i64 (x.q 2), .int .i64 (x.q 3), .int .i64 (x.q 4), .int .i64 (x.q 5), .int .i64 (x.q 6), .int .i64 (x.q 7)] 154)).heap[wr.heap.size]? = .some (.cells #[.int .i64 x.o, .int .i64 x.num, .int .i64 x.c, .int .i64 x.kind, .int .i64 x.tc, .int .i64 x.tk, .int .i32 x.r, .int .i64 (x.q 0), .int .i64 (x.q 1), .int .i64 (x.q 2), .int .i64 (x.q 3), .int .i64 (x.q 4), .int .i64 (x.q 5), .int .i64 (x.q 6), .int .i64 (x.q 7)] 154) := by rw [heap_alloc_at]; simp
      generalize (wr.alloc (.cells #[.int .i64 x.o, .int .i64 x.num, .int .i64 x.c, .int .i64 x.kind, .int .i64 x.tc, .int .i64 x.tk, .int .i32 x.r, .int .i64 (x.q 0), .int .i64 (x.q 1), .int .i64 (x.q 2), .int .i64 (x.q 3), .int .i64 (x.q 4), .int .i64 (x.q 5), .int .i64 (x.q 6), .int .i64 (x.q 7)] 154)) = w1 at g1 k1 ⊢
      generalize wr.heap.size = bx at k1 ⊢
      have f0 : w1.cell? ⟨bx, 0, none⟩ = .some (.int .i64 x.o) := cell_blk k1 0
      have f1 : w1.cell? ⟨bx, 1, none⟩ = .some (.int .i64 x.num) := cell_blk k1 1
      have f2 : w1.cell? ⟨bx, 2, none⟩ = .some (.int .i64 x.c) := cell_blk k1 2
      have f3 : w1.cell? ⟨bx, 3, none⟩ = .some (.int .i64 x.kind) := cell_blk k1 3
      have f4 : w1.cell? ⟨bx, 4, none⟩ = .some (.int .i64 x.tc) := cell_blk k1 4
      have f5 : w1.cell? ⟨bx, 5, none⟩ = .some (.int .i64 x.tk) := cell_blk k1 5
      have f6 : w1.cell? ⟨bx, 6, none⟩ = .some (.int .i32 x.r) := cell_blk k1 6
      have f7 : w1.cell? ⟨bx, 7, none⟩ = .some (.int .i64 (x.q 0)) := cell_blk k1 7
      have f8 : w1.cell? ⟨bx, 8, none⟩ = .some (.int .i64 (x.q 1)) := cell_blk k1 8
      have f9 : w1.cell? ⟨bx, 9, none⟩ = .some (.int .i64 (x.q 2)) := cell_blk k1 9
      have f10 : w1.cell? ⟨bx, 10, none⟩ = .some (.int .i64 (x.q 3)) := cell_blk k1 10
      have f11 : w1.cell? ⟨bx, 11, none⟩ = .some (.int .i64 (x.q 4)) := cell_blk k1 11
      have f12 : w1.cell? ⟨bx, 12, none⟩ = .some (.int .i64 (x.q 5)) := cell_blk k1 12
      have f13 : w1.cell? ⟨bx, 13, none⟩ = .some (.int .i64 (x.q 6)) := cell_blk k1 13
      have f14 : w1.cell? ⟨bx, 14, none⟩ = .some (.int .i64 (x.q 7)) := cell_blk k1 14
      have HA := hide (appOp n h8 x hxo w1)
      unfold opArr at HA
      have hR5 := hR5.grown g1
      have hR6 := hR6.grown g1
      have hG := grown_trans hG g1
      have hfl := flat_len_op h8 some hso
      have hpl := bytes_len h8 hxo
      clear r0 r1 r2 r3 r4 r5 r6 r7 r8 r9 r10 r11 r12 r13 r14 hb hc k1 g1
      obtain ⟨a6, c6, rfl, -⟩ := hR6.value
      rw [byRow_len] at hR6 hO6 ⊢
      have HP := hP
      have HP6 := hide hR6
      have hdr := drop_at hx
      have HPK : Hid (out ++ (packs n some (x :: l.drop (i + 1))).map (batch n) = answers n l) := by rw [← hdr]; exact HP
      clear hdr HP hP hR6
      obtain ⟨fl, hfl0⟩ : ∃ fl, (some.flatMap (OpR.bytes n)).length = fl := ⟨_, rfl⟩
      obtain ⟨pl, hpl0⟩ : ∃ pl, (x.bytes n).length = pl := ⟨_, rfl⟩
      have HFL := hide hfl0
      have HPL := hide hpl0
      rw [hfl0] at hfl HP6 hO6 ⊢
      rw [hpl0] at hpl
      clear hfl0 hpl0
      go_wp2_with fail
      refine HA.out.mono ?_
      rintro e w3 ⟨v3, rfl, hR3, g3, hO3⟩
      obtain ⟨a3, c3, rfl, -⟩ := hR3.value
      rw [byRow_len, HPL.out] at hR3 hO3 ⊢
      have hR5 := hR5.grown g3
      have hR6 := HP6.out.grown g3
      have hG := grown_trans hG g3
      have hs3 := hR3.src
      have hR3b := hR3
      clear HP6 HA g3 f0 f1 f2 f3 f4 f5 f6 f7 f8 f9 f10 f11 f12 f13 f14
      have hsz : w.heap.size ≤ w3.heap.size := hG.size
      by_cases h114 : 114 < fl + pl
      · have h114i : (114 : Int) < (fl : Int) + (pl : Int) := by omega
        have HW := hide (writeBatP some.length (by omega) (some.flatMap (OpR.bytes n)) (by rw [HFL.out]; omega) (.slice a6 fl c6) w3 hR6)
        have HPK2 : Hid ((out ++ [batch n some]) ++ (packs n [x] (l.drop (i + 1))).map (batch n) = answers n l) := by
          have := HPK.out
          rw [packs_cons, if_pos (by rw [HFL.out, HPL.out]; exact h114)] at this
          refine hide ?_
          rw [← this]; simp
        have HBT : Hid (sealB (66 :: (vb some.length ++ some.flatMap (OpR.bytes n))) = batch n some) := rfl
        rw [HBT.out] at HW
        clear HBT HPK
        generalize hbt : batch n some = bt at HW HPK2
        clear hbt
        have hR6' := hR6
        clear hR6
        go_wp2_with fail
        refine HW.out.mono ?_
        rintro e w4 ⟨rfl, g4⟩
        have g5 : w4.grownBy (w4.alloc (.cells #[str bt] 9)) none := grown_alloc (grown_refl _) _
        have hS5 : SrcAt (w4.alloc (.cells #[str bt] 9)) (.slice (.some ⟨w4.heap.size, 0, none⟩) 1 1) (strRow [bt]) := src_new w4 [str bt] _
        have hR5a := hR5.grown (grown_trans g4 g5)
        have hG5 := grown_trans hG (grown_trans g4 g5)
        have hR3a := hR3b.grown (grown_trans g4 g5)
        have lo : (strRow out).length ≤ 1000 := by rw [strRow_len]; omega
        have l1 : (strRow [bt]).length = 1 := rfl
        clear hR5 hs3 hR3 hR3b
        go_upto_region 11 with (at_builtin; refine wpList_row Tryz.underlying26 infoStr rfl (by decide) rfl _ _ rfl u5 _ rfl hR5a _ _ rfl hS5 (strRow_one _) (strRow_cell _) (by unfold maxLen; omega) (by omega) ?_; intro v5 w5 hR5' hg5 hat5)
        rw [← strRow_append] at hR5'
        have hG6 : w.grownBy w5 none := ((Fr.ofGrown hG5).grown hg5 (fun k hk => .inr (hO5 k hk)) : Fr [] w w5).toGrown
        have hO5' : ∀ g, v5.ownBlock = .some g → w.heap.size ≤ g := fun g hg => by
          rcases hat5 with hat | hat
          · exact hO5 g (hat ▸ hg)
          · rw [hat] at hg; cases hg; exact hG5.size
        have hR3' : RowAt 5 1 (.slice a3 pl c3) (byRow (x.bytes n)) w5 := hR3a.kept (fun g hg => hg5.block g (hR3a.lt hg) (fun q => hR5a.ne hR3a (by decide) q.symm hg))
        have hs3 := hR3'.src
        have l3 : (byRow (x.bytes n)).length = pl := by rw [byRow_len, HPL.out]
        have hnil := row_nil 5 1 w5
        clear hR5a hS5 hR3a g4 g5
        go_wp2_with (at_builtin; refine wpList_row Tryz.underlying69 infoU8 rfl (by decide) rfl _ _ rfl _ _ rfl hnil _ _ rfl hs3 (byRow_one _) (byRow_cell _) (by unfold maxLen; simp only [List.length_nil]; omega) (by simp only [List.length_nil]; omega) ?_; intro v6 w6 hR6' hg6 hat6)
        rw [List.nil_append] at hR6'
        have hR5'' := hR5'.grown hg6
        go_roundg (l.length - (i + 1))
        case measure => omega
        case rel =>
          refine ⟨i + 1, out ++ [bt], [x], by go_num, by omega, rfl, rfl, by simp, by simpa using hxo, by simp; omega, HPK2, hR5'', by simpa using hR6', grown_trans hG6 hg6, hO5', fun g hg => ?_⟩
          rcases hat6 with hat | hat
          · rw [hat] at hg; cases hg
          · rw [hat] at hg; cases hg; exact hG6.size
      · have h114i : ¬ (114 : Int) < (fl : Int) + (pl : Int) := by omega
        have HPK2 : Hid (out ++ (packs n (some ++ [x]) (l.drop (i + 1))).map (batch n) = answers n l) := by
          have := HPK.out
          rw [packs_cons, if_neg (by rw [HFL.out, HPL.out]; exact h114)] at this
          exact this
        have l6 : (byRow (some.flatMap (OpR.bytes n))).length = fl := by rw [byRow_len, HFL.out]
        have l3 : (byRow (x.bytes n)).length = pl := by rw [byRow_len, HPL.out]
        have hR6a := hR6
        clear HPK hR3 hR3b hR6
        go_wp2_with (at_builtin; refine wpList_row Tryz.underlying69 infoU8 rfl (by decide) rfl _ _ rfl _ _ rfl hR6a _ _ rfl hs3 (byRow_one _) (byRow_cell _) (by unfold maxLen; omega) (by omega) ?_; intro v6 w6 hR6' hg6 hat6)
        rw [← byRow_append] at hR6'
        go_roundg (l.length - (i + 1))
        case measure => omega
        case rel =>
          have hR5'' : RowAt 9 1 u5 (strRow out) w6 := hR5.kept (fun g hg => hg6.block g (hR5.lt hg) (fun q => hR6a.ne hR5 (by decide) q.symm hg))
          refine ⟨i + 1, out, some ++ [x], by go_num, by omega, rfl, by simp, by simp; omega, ?_, by omega, HPK2, hR5'', by simpa using hR6', ((Fr.ofGrown hG).grown hg6 (fun k hk => .inr (hO6 k hk)) : Fr [] w w6).toGrown, hO5, fun g hg => ?_⟩
          · intro y hy
            rcases List.mem_append.1 hy with hy | hy
            · exact hso y hy
            · simp at hy; subst hy; exact hxo
          · rcases hat6 with hat | hat
            · exact hO6 g (hat ▸ hg)
            · rw [hat] at hg; cases hg; exact hsz
    · obtain rfl : i = l.length := by omega
      have hfin := hP.out
      rw [List.drop_length] at hfin
      have HFN := hide hfin
      clear hfin hP
      have hfl := flat_len_op h8 some hso
      by_cases hz : some.length = 0
      · have hzi : ¬ (0 : Int) < (some.length : Int) := by omega
        have he : out = answers n l := by
          have := HFN.out
          simpa [packs, hz] using this
        have HE := hide he
        clear he
        go_wp2_with fail
        go_ret
        exact ⟨_, rfl, by rw [← HE.out]; exact hR5, hG, hO5⟩
      · have hzi : (0 : Int) < (some.length : Int) := by omega
        have he : out ++ [batch n some] = answers n l := by
          have := HFN.out
          simpa [packs, hz] using this
        have HE := hide he
        clear he HFN
        obtain ⟨a6, c6, rfl, -⟩ := hR6.value
        rw [byRow_len] at hR6 ⊢
        have HW := hide (writeBatP some.length (by omega) (some.flatMap (OpR.bytes n)) (by omega) _ wr hR6)
        have HBT : Hid (sealB (66 :: (vb some.length ++ some.flatMap (OpR.bytes n))) = batch n some) := rfl
        rw [HBT.out] at HW
        clear HBT
        generalize hbt : batch n some = bt at HW HE
        clear hbt hR6 hO6
        generalize (some.flatMap (OpR.bytes n)).length = fl at HW ⊢
        go_wp2_with fail
        refine HW.out.mono ?_
        rintro e w4 ⟨rfl, g4⟩
        have g5 : w4.grownBy (w4.alloc (.cells #[str bt] 9)) none := grown_alloc (grown_refl _) _
        have hS5 : SrcAt (w4.alloc (.cells #[str bt] 9)) (.slice (.some ⟨w4.heap.size, 0, none⟩) 1 1) (strRow [bt]) := src_new w4 [str bt] _
        have hR5a := hR5.grown (grown_trans g4 g5)
        have hG5 := grown_trans hG (grown_trans g4 g5)
        have lo : (strRow out).length ≤ 1000 := by rw [strRow_len]; omega
        have l1 : (strRow [bt]).length = 1 := rfl
        go_wp2_with (at_builtin; refine wpList_row Tryz.underlying26 infoStr rfl (by decide) rfl _ _ rfl u5 _ rfl hR5a _ _ rfl hS5 (strRow_one _) (strRow_cell _) (by unfold maxLen; omega) (by omega) ?_; intro v5 w5 hR5' hg5 hat5)
        rw [← strRow_append] at hR5'
        go_ret
        refine ⟨v5, rfl, by rw [← HE.out]; exact hR5', ((Fr.ofGrown hG5).grown hg5 (fun k hk => .inr (hO5 k hk)) : Fr [] w w5).toGrown, fun g hg => ?_⟩
        rcases hat5 with hat | hat
        · exact hO5 g (hat ▸ hg)
        · rw [hat] at hg; cases hg; exact hG5.size

end Go.Proofs.YtachmkhbbbmioaaGreat

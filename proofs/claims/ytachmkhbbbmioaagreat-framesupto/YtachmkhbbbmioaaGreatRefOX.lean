import Derived.Test.YtachmkhbbbmioaaGreatBadX
import Derived.Test.YtachmkhbbbmioaaGreatFaceX
import Derived.Test.YtachmkhbbbmioaaGreatLineQX
import Derived.Test.YtachmkhbbbmioaaGreatFrAX
import Derived.Test.YtachmkhbbbmioaaGreatRefFX
namespace Go.Proofs.YtachmkhbbbmioaaGreat
open Go.RowKit Go.Shelf

theorem flat_ge (n : Nat) (l : List OpR) : l.length ≤ (l.flatMap (OpR.bytes n)).length := by
  induction l with
  | nil => simp
  | cons x l ih =>
    have := bytes_pos n x
    rw [List.flatMap_cons, List.length_append, List.length_cons]; omega

theorem batch_len (n : Nat) (l : List OpR) (h : l.length < 128) : (batch n l).length = (l.flatMap (OpR.bytes n)).length + 6 := by
  unfold batch
  rw [seal_len, List.length_cons, List.length_append, vb_small h]
  simp only [List.length_cons, List.length_nil]; omega

theorem op_one (x : OpR) (ak : Option Addr) (m c : Nat) : ∀ y ∈ [opCells x (.slice ak m c)], ∀ c ∈ y, c.oneCell' = true := by
  intro y hy c hc
  simp only [List.mem_cons, List.not_mem_nil, or_false] at hy
  subst hy
  simp only [opCells, List.mem_cons, List.not_mem_nil, or_false] at hc
  rcases hc with rfl | rfl | rfl | rfl | rfl | rfl | rfl | rfl <;> rfl

theorem rows_one {n : Nat} {rows : List (List Value)} {l : List OpR} {w : World} (hl : rows.length = l.length) (hx : ∀ (j : Nat) (y : OpR), l[j]? = some y → ∃ vk, rows[j]? = some (opCells y vk) ∧ RowAt 3 1 vk (intRow (clk n y.q)) w) : ∀ y ∈ rows, ∀ c ∈ y, c.oneCell' = true := by
  intro y hy c hc
  obtain ⟨j, hj, rfl⟩ := List.mem_iff_getElem.1 hy
  obtain ⟨vk, a, b⟩ := hx j (l[j]'(by omega)) (List.getElem?_eq_getElem (by omega))
  rw [List.getElem?_eq_getElem hj, Option.some.injEq] at a
  rw [a] at hc
  obtain ⟨ak, ck, rfl, -⟩ := b.value
  exact op_one (l[j]'(by omega)) ak (intRow (clk n (l[j]'(by omega)).q)).length ck _ (List.mem_singleton.2 rfl) c hc

theorem ops_new {n : Nat} {x : OpR} {vk : Value} {w : World} (hk : RowAt 3 1 vk (intRow (clk n x.q)) w) : OpsRow n (.slice (some ⟨w.heap.size, 0, none⟩) 1 1) [x] (w.alloc (.cells #[.int .i64 x.o, .int .i64 x.num, .int .i64 x.c, .int .i64 x.kind, .int .i64 x.tc, .int .i64 x.tk, .int .i64 x.r, vk] 88)) := by
  refine ⟨[opCells x vk], ⟨⟨rfl, .inr ⟨_, _, _, rfl, Nat.zero_le _, heap_alloc_new _ _, Nat.le_refl _, by unfold maxLen; omega, rfl, rfl⟩⟩, opCells_len x vk⟩, rfl, fun j y hj => ?_⟩
  match j, hj with
  | 0, hj =>
    simp at hj
    subst hj
    exact ⟨vk, rfl, hk.grown (grown_alloc (grown_refl _) _)⟩
  | j + 1, hj => simp at hj

set_option maxRecDepth 100000 in
set_option maxHeartbeats 8000000 in
theorem batchesR (n : Nat) (h8 : n ≤ 8) (l : List OpR) (hl : l.length ≤ 1000) (hok : ∀ x ∈ l, OpOk n x) (v : Value) (w : World) (hv : OpsRow n v l w) :
    Calls Tryz.prog 70 #[v] w fun e w' => ∃ v', e = .returned v' ∧ RowAt 9 1 v' (strRow (answers n l)) w' ∧ w.grownBy w' none ∧ (∀ g, v'.ownBlock = some g → w.heap.size ≤ g) := by
  obtain ⟨rows, hR, hRl, hRx⟩ := hv
  obtain ⟨av, cv, rfl, -⟩ := hR.value
  rw [hRl] at hR ⊢
  go_enter Tryz.func70, Tryz.ntmps70
  go_wp2_with fail
  go_loopg [3, 4, 5] l.length (fun gk s3 s4 s5 wr => ∃ (i : Nat) (out : List (List UInt8)) (sm : List OpR), s5 = .int .i64 i ∧ i ≤ l.length ∧ gk = l.length - i ∧ sm.length ≤ i ∧ (∀ x ∈ sm, OpOk n x) ∧ (sm.length ≤ 1 ∨ (sm.flatMap (OpR.bytes n)).length ≤ 114) ∧ out.length ≤ i ∧
    Hid (out ++ (packs n sm (l.drop i)).map (batch n) = answers n l) ∧ RowAt 9 1 s3 (strRow out) wr ∧ OpsRow n s4 sm wr ∧ w.grownBy wr none ∧ (∀ g, s3.ownBlock = some g → w.heap.size ≤ g))
  case atStart => exact ⟨0, [], [], rfl, by omega, rfl, by simp, by simp, by simp, by simp, hide (by simp [answers]), row_nil _ _ _, ⟨[], row_nil _ _ _, rfl, by simp⟩, grown_refl _, by simp [Value.ownBlock]⟩
  case round =>
    obtain ⟨i, out, sm, rfl, hil, hgk, hsl, hso, hsf, hol, hP, hR3, hR4, hG, hO3⟩ := hrel
    by_cases hlt : i < l.length
    · have hli : (i : Int) < (l.length : Int) := by omega
      obtain ⟨x, hx⟩ : ∃ x, l[i]? = some x := ⟨l[i], by simp [hlt]⟩
      have hxo := hok x (List.mem_of_getElem? hx)
      have hfg := flat_ge n sm
      have hfl := flat_len_op h8 sm hso
      have hbl := bytes_len h8 hxo
      have hs115 : sm.length ≤ 114 := by omega
      have hBW := fun (vo : Value) (w' : World) (hw : OpsRow n vo (sm ++ [x]) w') => writeBatR n h8 (sm ++ [x]) (by simp; omega) (by intro y hy; rcases List.mem_append.1 hy with hy | hy; exact hso y hy; simp at hy; subst hy; exact hxo) (.slice none 0 0) vo w' hw
      have hBS := fun (vo : Value) (w' : World) (hw : OpsRow n vo sm w') => writeBatR n h8 sm (by omega) hso (.slice none 0 0) vo w' hw
      have hlenB : (batch n (sm ++ [x])).length = (sm.flatMap (OpR.bytes n)).length + (x.bytes n).length + 6 := by
        rw [batch_len n _ (by simp; omega)]
        simp
      have hdr := drop_at hx
      have HPK : Hid (out ++ (packs n sm (x :: l.drop (i + 1))).map (batch n) = answers n l) := by rw [← hdr]; exact hP
      clear hdr hP
      obtain ⟨fl, hfl0⟩ : ∃ fl, (sm.flatMap (OpR.bytes n)).length = fl := ⟨_, rfl⟩
      obtain ⟨pl, hpl0⟩ : ∃ pl, (x.bytes n).length = pl := ⟨_, rfl⟩
      rw [hfl0, hpl0] at hlenB
      rw [hfl0] at hfl hfg
      rw [hpl0] at hbl
      have HFL := hide hfl0
      have HPL := hide hpl0
      have HSF := hide hsf
      obtain ⟨B1, hB1⟩ : ∃ b, batch n (sm ++ [x]) = b := ⟨_, rfl⟩
      rw [hB1] at hlenB hBW
      have HBW := hide hBW
      have HBS := hide hBS
      clear hfl0 hpl0 hB1 hBW hBS hsf
      obtain ⟨rows4, hRr4, hRl4, hRx4⟩ := hR4
      obtain ⟨a4, c4, rfl, -⟩ := hRr4.value
      rw [hRl4] at hRr4 ⊢
      have HSM : Hid (OpsRow n (.slice a4 sm.length c4) sm wr) := ⟨rows4, hRr4, hRl4, hRx4⟩
      have hs4 := hRr4.src
      have hone4 := rows_one hRl4 hRx4
      have hnil := row_nil 88 8 wr
      have l4 : rows4.length ≤ 200 := by omega
      go_upto_region 8 with (at_builtin; refine wpList_row Tryz.underlying41 infoOp rfl (by decide) rfl _ _ rfl _ _ rfl hnil _ _ rfl hs4 hRr4.2 hone4 (by unfold maxLen; simp only [List.length_nil]; omega) (by simp only [List.length_nil]; omega) ?_; intro v6 w6 hR6 hg6 hat6)
      rw [List.nil_append] at hR6
      have hg6n : wr.grownBy w6 none := hg6
      have hRx6 : ∀ (j : Nat) (y : OpR), sm[j]? = some y → ∃ vk, rows4[j]? = some (opCells y vk) ∧ RowAt 3 1 vk (intRow (clk n y.q)) w6 := fun j y hj => by obtain ⟨vk, a, b⟩ := hRx4 j y hj; exact ⟨vk, a, b.grown hg6n⟩
      have hR46 := hRr4.grown hg6n
      have HR3 := hide hR3
      have hR36 := hR3.grown hg6n
      have hG6 := grown_trans hG hg6n
      have hown6 : ∀ g, v6.ownBlock = some g → wr.heap.size ≤ g := fun g hg => by
        rcases hat6 with hat | hat
        · rw [hat] at hg; cases hg
        · rw [hat] at hg; cases hg; exact Nat.le_refl _
      clear hRr4 hs4 hone4 hnil hat6 hR3
      obtain ⟨vk, hrow, hclk⟩ := hRx i x hx
      obtain ⟨ak, ck, rfl, -⟩ := hclk.value
      rw [intRow_len, clk_len] at hrow hclk
      obtain ⟨gr, cr, cur, hvr, -, hbr, hcr⟩ := (hR.grown hG6).cell hrow
      rw [hRl] at hvr
      cases hvr
      have hclk6 := hclk.grown hG6
      have r0 : w6.cell? ⟨gr, i * 8, none⟩ = some (.int .i64 x.o) := (cell_blk hbr _).trans (hcr 0 _ rfl)
      have r1 : w6.cell? ⟨gr, i * 8 + 1, none⟩ = some (.int .i64 x.num) := (cell_blk hbr _).trans (hcr 1 _ rfl)
      have r2 : w6.cell? ⟨gr, i * 8 + 2, none⟩ = some (.int .i64 x.c) := (cell_blk hbr _).trans (hcr 2 _ rfl)
      have r3 : w6.cell? ⟨gr, i * 8 + 3, none⟩ = some (.int .i64 x.kind) := (cell_blk hbr _).trans (hcr 3 _ rfl)
      have r4 : w6.cell? ⟨gr, i * 8 + 4, none⟩ = some (.int .i64 x.tc) := (cell_blk hbr _).trans (hcr 4 _ rfl)
      have r5 : w6.cell? ⟨gr, i * 8 + 5, none⟩ = some (.int .i64 x.tk) := (cell_blk hbr _).trans (hcr 5 _ rfl)
      have r6 : w6.cell? ⟨gr, i * 8 + 6, none⟩ = some (.int .i64 x.r) := (cell_blk hbr _).trans (hcr 6 _ rfl)
      have r7 : w6.cell? ⟨gr, i * 8 + 7, none⟩ = some (.slice ak n ck) := (cell_blk hbr _).trans (hcr 7 _ rfl)
      have g7 : w6.grownBy (w6.alloc (.cells #[.int .i64 x.o, .int .i64 x.num, .int .i64 x.c, .int .i64 x.kind, .int .i64 x.tc, .int .i64 x.tk, .int .i64 x.r, .slice ak n ck] 88)) none := grown_alloc (grown_refl _) _
      have hSr : SrcAt (w6.alloc (.cells #[.int .i64 x.o, .int .i64 x.num, .int .i64 x.c, .int .i64 x.kind, .int .i64 x.tc, .int .i64 x.tk, .int .i64 x.r, .slice ak n ck] 88)) (.slice (some ⟨w6.heap.size, 0, none⟩) 1 1) [opCells x (.slice ak n ck)] := src_new w6 (opCells x (.slice ak n ck)) _
      have hR7 := hR6.grown g7
      have hRx7 : ∀ (j : Nat) (y : OpR), sm[j]? = some y → ∃ vk, rows4[j]? = some (opCells y vk) ∧ RowAt 3 1 vk (intRow (clk n y.q)) (w6.alloc (.cells #[.int .i64 x.o, .int .i64 x.num, .int .i64 x.c, .int .i64 x.kind, .int .i64 x.tc, .int .i64 x.tk, .int .i64 x.r, .slice ak n ck] 88)) := fun j y hj => by obtain ⟨vk, a, b⟩ := hRx6 j y hj; exact ⟨vk, a, b.grown g7⟩
      have hclk7 := hclk6.grown g7
      have hR47 := hR46.grown g7
      have hR37 := hR36.grown g7
      have hG7 := grown_trans hG6 g7
      have l1 : ([opCells x (.slice ak n ck)] : List (List Value)).length = 1 := rfl
      have hown67 := hown6
      have HXX := hide hx
      clear hcr hrow hbr hR6 hRx6 hR46 hR36 hx
      go_upto_region 9 with (at_builtin; refine wpList_row Tryz.underlying41 infoOp rfl (by decide) rfl _ _ rfl v6 _ rfl hR7 _ _ rfl hSr (opCells_len _ _) (op_one _ _ _ _) (by unfold maxLen; omega) (by omega) ?_; intro v8 w8 hR8 hg8 hat8)
      have hops8 := ops_more hR7 hRl4 hRx7 hR8 hg8 hclk7
      have hF8 : Fr [] wr w8 := ((Fr.ofGrown (grown_trans hg6n g7)).grown hg8 (fun k hk => .inr (hown6 k hk)))
      have hG8 := grown_trans hG hF8.toGrown
      have keep8 : ∀ (e : TypeId) (k : Nat) (u : Value) (xs : List (List Value)), RowAt e k u xs wr → RowAt e k u xs w8 := fun e k u xs hu => hu.kept (fun g hg => hF8.block g (hu.lt hg) (by simp))
      have HKEEP := hide keep8
      have HOPS := hide hops8
      obtain ⟨rows8, hRr8, hRl8, -⟩ := hops8
      obtain ⟨a8, c8, rfl, -⟩ := hRr8.value
      rw [hRl8] at HOPS ⊢
      have hopl : (sm ++ [x]).length = sm.length + 1 := by simp
      rw [hopl] at HOPS ⊢
      clear hR7 hSr hRx7 hclk7 hR47 hR37 hG7 g7 hg8 hat8 hown67 hown6 hR8 hRr8 r0 r1 r2 r3 r4 r5 r6 r7 keep8 hclk6 hg6n hg6 hRx4
      have HB1 := hide (HBW.out _ w8 HOPS.out)
      go_wp2_with fail
      refine HB1.out.mono ?_
      rintro e w9 ⟨rfl, g9⟩
      have hF9 := hF8.grown g9 (by simp)
      by_cases h114 : 114 < fl + pl
      · have hgt : (120 : Int) < (B1.length : Int) := by omega
        have HPK2 : Hid ((out ++ [batch n sm]) ++ (packs n [x] (l.drop (i + 1))).map (batch n) = answers n l) := by
          have := HPK.out
          rw [packs_cons, if_pos (by rw [HFL.out, HPL.out]; exact h114)] at this
          refine hide ?_
          rw [← this]; simp
        have HB2 := hide (HBS.out _ w9 (HSM.out.grown hF9.toGrown))
        generalize hbt : batch n sm = bt at HB2 HPK2
        clear hbt HPK HB1 HBW HBS HOPS
        go_wp2_with fail
        refine HB2.out.mono ?_
        rintro e wA ⟨rfl, gA⟩
        have gB : wA.grownBy (wA.alloc (.cells #[str bt] 9)) none := grown_alloc (grown_refl _) _
        have hSb : SrcAt (wA.alloc (.cells #[str bt] 9)) (.slice (some ⟨wA.heap.size, 0, none⟩) 1 1) (strRow [bt]) := src_new wA [str bt] _
        have hFB := (hF9.grown gA (by simp)).grown gB (by simp)
        have hR3B := HR3.out.grown hFB.toGrown
        have hGB := grown_trans hG hFB.toGrown
        have lo : (strRow out).length ≤ 1000 := by rw [strRow_len]; omega
        have lb : (strRow [bt]).length = 1 := rfl
        go_upto_region 12 with (at_builtin; refine wpList_row Tryz.underlying26 infoStr rfl (by decide) rfl _ _ rfl u3 _ rfl hR3B _ _ rfl hSb (strRow_one _) (strRow_cell _) (by unfold maxLen; omega) (by omega) ?_; intro vC wC hRC hgC hatC)
        rw [← strRow_append] at hRC
        have hFC : Fr [] w wC := (Fr.ofGrown hGB).grown hgC (fun k hk => .inr (hO3 k hk))
        have hGC := hFC.toGrown
        have hOC : ∀ g, vC.ownBlock = some g → w.heap.size ≤ g := fun g hg => by
          rcases hatC with hat | hat
          · exact hO3 g (hat ▸ hg)
          · rw [hat] at hg; cases hg; exact hGB.size
        clear hR3B hSb gB hgC hatC HR3
        obtain ⟨vk2, hrow2, hclk2⟩ := hRx i x HXX.out
        obtain ⟨gr2, cr2, cur2, hvr2, -, hbr2, hcr2⟩ := (hR.grown hGC).cell hrow2
        rw [hRl] at hvr2
        cases hvr2
        obtain ⟨ak, ck, rfl, -⟩ := hclk2.value
        rw [intRow_len, clk_len] at hrow2 hclk2 hcr2
        have r0 : wC.cell? ⟨gr, i * 8, none⟩ = some (.int .i64 x.o) := (cell_blk hbr2 _).trans (hcr2 0 _ rfl)
        have r1 : wC.cell? ⟨gr, i * 8 + 1, none⟩ = some (.int .i64 x.num) := (cell_blk hbr2 _).trans (hcr2 1 _ rfl)
        have r2 : wC.cell? ⟨gr, i * 8 + 2, none⟩ = some (.int .i64 x.c) := (cell_blk hbr2 _).trans (hcr2 2 _ rfl)
        have r3 : wC.cell? ⟨gr, i * 8 + 3, none⟩ = some (.int .i64 x.kind) := (cell_blk hbr2 _).trans (hcr2 3 _ rfl)
        have r4 : wC.cell? ⟨gr, i * 8 + 4, none⟩ = some (.int .i64 x.tc) := (cell_blk hbr2 _).trans (hcr2 4 _ rfl)
        have r5 : wC.cell? ⟨gr, i * 8 + 5, none⟩ = some (.int .i64 x.tk) := (cell_blk hbr2 _).trans (hcr2 5 _ rfl)
        have r6 : wC.cell? ⟨gr, i * 8 + 6, none⟩ = some (.int .i64 x.r) := (cell_blk hbr2 _).trans (hcr2 6 _ rfl)
        have r7 : wC.cell? ⟨gr, i * 8 + 7, none⟩ = some (.slice ak n ck) := (cell_blk hbr2 _).trans (hcr2 7 _ rfl)
        have hON := ops_new (hclk2.grown hGC)
        have gD : wC.grownBy (wC.alloc (.cells #[.int .i64 x.o, .int .i64 x.num, .int .i64 x.c, .int .i64 x.kind, .int .i64 x.tc, .int .i64 x.tk, .int .i64 x.r, .slice ak n ck] 88)) none := grown_alloc (grown_refl _) _
        clear hcr2 hrow2 hbr2
        go_wp2_with fail
        go_roundg (l.length - (i + 1))
        case measure => omega
        case rel => exact ⟨i + 1, out ++ [bt], [x], by go_num, by omega, rfl, by simp, by simpa using hxo, .inl (by simp), by simp; omega, HPK2, hRC.grown gD, hON, grown_trans hGC gD, hOC⟩
      · have hgt : ¬ (120 : Int) < (B1.length : Int) := by omega
        have HPK2 : Hid (out ++ (packs n (sm ++ [x]) (l.drop (i + 1))).map (batch n) = answers n l) := by
          have := HPK.out
          rw [packs_cons, if_neg (by rw [HFL.out, HPL.out]; exact h114)] at this
          exact this
        clear HPK HB1 HBW HBS
        go_wp2_with fail
        go_roundg (l.length - (i + 1))
        case measure => omega
        case rel =>
          refine ⟨i + 1, out, sm ++ [x], by go_num, by omega, rfl, by simp; omega, ?_, .inr ?_, by omega, HPK2, HR3.out.grown hF9.toGrown, by have := HOPS.out.grown g9; simpa using this, grown_trans hG hF9.toGrown, hO3⟩
          · intro y hy
            rcases List.mem_append.1 hy with hy | hy
            · exact hso y hy
            · simp at hy; subst hy; exact hxo
          · have := HFL.out
            have := HPL.out
            simp only [List.flatMap_append, List.flatMap_cons, List.flatMap_nil, List.append_nil, List.length_append]
            omega
    · obtain rfl : i = l.length := by omega
      have hfin := hP.out
      rw [List.drop_length] at hfin
      have HFN := hide hfin
      clear hfin hP
      have HR4 := hide hR4
      obtain ⟨rows4, hRr4, hRl4, -⟩ := hR4
      obtain ⟨a4, c4, rfl, -⟩ := hRr4.value
      rw [hRl4] at HR4 ⊢
      clear hRr4
      by_cases hz : sm.length = 0
      · have hzi : ¬ (0 : Int) < (sm.length : Int) := by omega
        have he : out = answers n l := by
          have := HFN.out
          simpa [packs, hz] using this
        have HE := hide he
        clear he HFN
        go_wp2_with fail
        go_ret
        exact ⟨_, rfl, by rw [← HE.out]; exact hR3, hG, hO3⟩
      · have hzi : (0 : Int) < (sm.length : Int) := by omega
        have he : out ++ [batch n sm] = answers n l := by
          have := HFN.out
          simpa [packs, hz] using this
        have HE := hide he
        clear he HFN
        have HB2 := hide (writeBatR n h8 sm (by omega) hso (.slice none 0 0) _ wr HR4.out)
        generalize hbt : batch n sm = bt at HB2 HE
        clear hbt HR4
        go_wp2_with fail
        refine HB2.out.mono ?_
        rintro e wA ⟨rfl, gA⟩
        have gB : wA.grownBy (wA.alloc (.cells #[str bt] 9)) none := grown_alloc (grown_refl _) _
        have hSb : SrcAt (wA.alloc (.cells #[str bt] 9)) (.slice (some ⟨wA.heap.size, 0, none⟩) 1 1) (strRow [bt]) := src_new wA [str bt] _
        have hR3B := hR3.grown (grown_trans gA gB)
        have hGB := grown_trans hG (grown_trans gA gB)
        have lo : (strRow out).length ≤ 1000 := by rw [strRow_len]; omega
        have lb : (strRow [bt]).length = 1 := rfl
        go_wp2_with (at_builtin; refine wpList_row Tryz.underlying26 infoStr rfl (by decide) rfl _ _ rfl u3 _ rfl hR3B _ _ rfl hSb (strRow_one _) (strRow_cell _) (by unfold maxLen; omega) (by omega) ?_; intro vC wC hRC hgC hatC)
        rw [← strRow_append] at hRC
        go_ret
        refine ⟨vC, rfl, by rw [← HE.out]; exact hRC, ((Fr.ofGrown hGB).grown hgC (fun k hk => .inr (hO3 k hk)) : Fr [] w wC).toGrown, fun g hg => ?_⟩
        rcases hatC with hat | hat
        · exact hO3 g (hat ▸ hg)
        · rw [hat] at hg; cases hg; exact hGB.size

end Go.Proofs.YtachmkhbbbmioaaGreat

namespace Go.Proofs.YtachmkhbbbmioaaGreat
open Go.RowKit Go.Shelf

theorem ckRow_int (S : CS) : ckRow S = intRow (clk S.n S.cl) := ckRowQ_int S.n S.cl

set_option maxRecDepth 100000 in
set_option maxHeartbeats 4000000 in
theorem ref_tick (yb : Nat) (S : CS) (hG : Good S) (vc vl vw vL : Value) (log wt : List (List Value)) (w : World) (h : RefAt yb S vc vl vw vL log wt w) :
    Calls Tryz.prog 51 #[.pointer (some ⟨yb, 0, none⟩)] w fun e w' => e = .returned (str (digest S.n S.s S.cl)) ∧ w.grownBy w' none := by
  have h8 := hG.n8
  have hs1 := hG.s1
  have hsn := hG.sn
  have hck := h.ck
  rw [ckRow_int] at hck
  obtain ⟨ak, ck, hvc, -⟩ := hck.value
  rw [intRow_len, clk_len] at hvc
  have c1 : w.cell? ⟨yb, 1, none⟩ = some (.int .i64 S.s) := cell_blk h.cp 1
  have c2 : w.cell? ⟨yb, 2, none⟩ = some vc := cell_blk h.cp 2
  rw [hvc] at c2 hck
  have HW := hide (writeDigR S.s (by omega) (by omega) S.n h8 S.cl (fun i hi => hG.cl i (by omega)) (.slice ak S.n ck) (.slice none 0 0) w.drew (hck.kept (fun _ _ => rfl)))
  generalize digest S.n S.s S.cl = D at HW ⊢
  clear h hvc hck
  go_enter Tryz.func51, Tryz.ntmps51
  go_wp2_with fail
  go_region_held3 (fun w' => w'.cell? ⟨yb, 1, none⟩ = some (.int .i64 S.s) ∧ w'.cell? ⟨yb, 2, none⟩ = some (.slice ak S.n ck))
    (first | go_keep | exact ⟨cc _ _ c1, cc _ _ c2⟩)
    (first | (go_at_call 42; refine HW.out.mono ?_; rintro e w1 ⟨rfl, hg⟩; have cc : ∀ (a : Addr) (x : Value), w.cell? a = some x → w1.cell? a = some x := fun a x hx => cell_of_grown hx (grown_trans (grown_drew (grown_refl w)) hg)))
  all_goals
    go_wp2_with fail
    go_ret
    exact ⟨rfl, grown_trans (grown_drew (grown_refl w)) hg⟩

set_option maxRecDepth 100000 in
set_option maxHeartbeats 4000000 in
theorem ref_hand (yb : Nat) (S : CS) (hG : Good S) (ho : OpsOk S) (vc vl vw vL : Value) (log wt : List (List Value)) (ks : List Nat) (s : Int) (hs1 : 1 ≤ s) (hsn : s ≤ S.n) (q : Nat → Int) (hq : ∀ i, i < S.n → 0 ≤ q i ∧ q i ≤ 100) (w : World) (h : RefAt yb S vc vl vw vL log wt w) (hlg : LogAt S.n ks log S.ops w) (hlog : log.length ≤ 1000) :
    Calls Tryz.prog 37 #[.pointer (some ⟨yb, 0, none⟩), str (digest S.n s q)] w fun e w' => ∃ v', e = .returned (.tuple #[v', .int .i64 0]) ∧ RowAt 9 1 v' (strRow (answers S.n (miss S q))) w' ∧ w.grownBy w' none ∧ (∀ g, v'.ownBlock = some g → w.heap.size ≤ g) := by
  have h8 := hG.n8
  have h1 : 1 ≤ S.n := by have := hG.s1; have := hG.sn; omega
  have c0 : w.cell? ⟨yb, 0, none⟩ = some (.int .i64 S.n) := cell_blk h.cp 0
  have HR := hide (readR S.n h1 h8 s hs1 hsn q hq w)
  have hMi := fun (v : Value) (w' : World) (hw : RefAt yb S vc vl vw vL log wt w') (hl : LogAt S.n ks log S.ops w') (hv : RowAt 3 1 v (intRow (clk S.n q)) w') => missingR yb S hG ho vc vl vw vL log wt ks q hq v w' hw hl hlog hv
  have hml := missTo_len hG ho q (fun i hi => (hq i hi).1) S.n (Nat.le_refl _)
  have hBa := fun (v : Value) (w' : World) (hv : OpsRow S.n v (miss S q) w') => batchesR S.n h8 (miss S q) (by show (missTo S q S.n).length ≤ 1000; omega) (fun x hx => (ho.ok x (miss_mem hx)).1) v w' hv
  have hs0 : (0 : Int) < s := by omega
  generalize answers S.n (miss S q) = AN at hBa ⊢
  generalize miss S q = MS at hMi hBa
  generalize digest S.n s q = D at HR ⊢
  have HMi := hide hMi
  have HBa := hide hBa
  clear hMi hBa hml hq
  go_enter Tryz.func37, Tryz.ntmps37
  go_wp2_with fail
  refine HR.out.mono ?_
  rintro e w1 ⟨vq, rfl, hRq, g1⟩
  obtain ⟨aq, cq, rfl, -⟩ := hRq.value
  rw [intRow_len, clk_len] at hRq ⊢
  go_upto_region 2 with fail
  have g2 : w1.grownBy (w1.alloc (.cells #[.int .i64 s, .slice aq S.n cq, .slice none 0 0] 84)) none := grown_alloc (grown_refl _) _
  have k2 : (w1.alloc (.cells #[.int .i64 s, .slice aq S.n cq, .slice none 0 0] 84)).heap[w1.heap.size]? = some (.cells #[.int .i64 s, .slice aq S.n cq, .slice none 0 0] 84) := by rw [heap_alloc_at]; simp
  generalize (w1.alloc (.cells #[.int .i64 s, .slice aq S.n cq, .slice none 0 0] 84)) = w2 at g2 k2 ⊢
  generalize w1.heap.size = bf at k2 ⊢
  have gA := grown_trans g1 g2
  have d0 : w2.cell? ⟨bf, 0, none⟩ = some (.int .i64 s) := cell_blk k2 0
  have d1 : w2.cell? ⟨bf, 1, none⟩ = some (.slice aq S.n cq) := cell_blk k2 1
  have HM2 := hide (HMi.out _ w2 (h.grown gA) (hlg.kept (fun k hk => gA.block k (hlg.lt k hk) (by simp))) (hRq.grown g2))
  clear HR HMi c0 h hlg hRq k2
  go_wp2_with fail
  refine HM2.out.mono ?_
  rintro e w3 ⟨v3, rfl, hR3, g3, -⟩
  go_wp2_with fail
  refine (HBa.out v3 w3 hR3).mono ?_
  rintro e w4 ⟨v4, rfl, hR4, g4, hO4⟩
  go_wp2_with fail
  exact bodyPost_ret (v := .tuple #[v4, .int .i64 0]) (by simp [results, Tryz.results37, go_sem]) rfl ⟨v4, rfl, hR4, grown_trans gA (grown_trans g3 g4), fun g hg => Nat.le_trans gA.size (Nat.le_trans g3.size (hO4 g hg))⟩

end Go.Proofs.YtachmkhbbbmioaaGreat

namespace Go.Proofs.YtachmkhbbbmioaaGreat
open Go.RowKit Go.Shelf

set_option maxRecDepth 100000 in
set_option maxHeartbeats 4000000 in
theorem stTickP (sb ma mp lb mb : Nat) (S : CS) (hG : Good S) (w : World) (hS : StAt sb ma mp lb mb S w) :
    Calls Tryz.prog 63 #[.pointer (some ⟨sb, 0, none⟩)] w fun e w' => e = .returned (str (digest S.n S.s S.cl)) ∧ w.grownBy w' none := by
  have h8 := hG.n8
  have hs1 := hG.s1
  have hsn := hG.sn
  have hst := hS.st
  unfold stArr at hst
  have c0 : w.cell? ⟨sb, 0, none⟩ = some (.int .i64 S.n) := cell_blk hst 0
  have c1 : w.cell? ⟨sb, 1, none⟩ = some (.int .i64 S.s) := cell_blk hst 1
  have c2 : w.cell? ⟨sb, 2, none⟩ = some (.int .i64 (S.cl 0)) := cell_blk hst 2
  have c3 : w.cell? ⟨sb, 3, none⟩ = some (.int .i64 (S.cl 1)) := cell_blk hst 3
  have c4 : w.cell? ⟨sb, 4, none⟩ = some (.int .i64 (S.cl 2)) := cell_blk hst 4
  have c5 : w.cell? ⟨sb, 5, none⟩ = some (.int .i64 (S.cl 3)) := cell_blk hst 5
  have c6 : w.cell? ⟨sb, 6, none⟩ = some (.int .i64 (S.cl 4)) := cell_blk hst 6
  have c7 : w.cell? ⟨sb, 7, none⟩ = some (.int .i64 (S.cl 5)) := cell_blk hst 7
  have c8 : w.cell? ⟨sb, 8, none⟩ = some (.int .i64 (S.cl 6)) := cell_blk hst 8
  have c9 : w.cell? ⟨sb, 9, none⟩ = some (.int .i64 (S.cl 7)) := cell_blk hst 9
  have HW := hide (writeDigP S.n h8 S.s (by omega) (by omega) S.cl (fun i hi => hG.cl i (by omega)) w.drew)
  unfold ckArr at HW
  generalize digest S.n S.s S.cl = D at HW ⊢
  clear hst hS
  go_enter Tryz.func63, Tryz.ntmps63
  go_wp2_with fail
  go_region_held3 (fun w' => w'.cell? ⟨sb, 0, none⟩ = some (.int .i64 S.n) ∧ w'.cell? ⟨sb, 1, none⟩ = some (.int .i64 S.s) ∧ w'.cell? ⟨sb, 2, none⟩ = some (.int .i64 (S.cl 0)) ∧ w'.cell? ⟨sb, 3, none⟩ = some (.int .i64 (S.cl 1)) ∧ w'.cell? ⟨sb, 4, none⟩ = some (.int .i64 (S.cl 2)) ∧ w'.cell? ⟨sb, 5, none⟩ = some (.int .i64 (S.cl 3)) ∧ w'.cell? ⟨sb, 6, none⟩ = some (.int .i64 (S.cl 4)) ∧ w'.cell? ⟨sb, 7, none⟩ = some (.int .i64 (S.cl 5)) ∧ w'.cell? ⟨sb, 8, none⟩ = some (.int .i64 (S.cl 6)) ∧ w'.cell? ⟨sb, 9, none⟩ = some (.int .i64 (S.cl 7)))
    (first | go_keep | exact ⟨ck _ _ c0, ck _ _ c1, ck _ _ c2, ck _ _ c3, ck _ _ c4, ck _ _ c5, ck _ _ c6, ck _ _ c7, ck _ _ c8, ck _ _ c9⟩)
    (first | (go_at_call 86; refine HW.out.mono ?_; rintro e w1 ⟨rfl, hg⟩; have ck : ∀ (a : Addr) (x : Value), w.cell? a = some x → w1.cell? a = some x := fun a x hx => cell_of_grown hx (grown_trans (grown_drew (grown_refl w)) hg)))
  all_goals
    go_wp2_with fail
    go_ret
    exact ⟨rfl, grown_trans (grown_drew (grown_refl w)) hg⟩

theorem missO_congr (S : CS) {q q' : Nat → Int} {i : Nat} (h : q i = q' i) (m : Nat) : missO S q i m = missO S q' i m := by unfold missO; rw [h]
theorem miss_part (S : CS) (q : Nat → Int) : miss S (partCk q S.n) = miss S q := by
  unfold miss missTo
  rw [List.flatMap_def, List.flatMap_def]
  congr 1
  apply List.map_congr_left
  intro i hi
  have h1 : partCk q S.n i = q i := by unfold partCk; rw [if_pos (List.mem_range.1 hi)]
  rw [h1]
  exact missO_congr S h1 _

set_option maxRecDepth 100000 in
set_option maxHeartbeats 4000000 in
theorem stHandP (sb ma mp lb mb : Nat) (S : CS) (hG : Good S) (ho : OpsOk S) (s : Int) (hs1 : 1 ≤ s) (hsn : s ≤ S.n) (q : Nat → Int) (hq : ∀ i, i < S.n → 0 ≤ q i ∧ q i ≤ 100) (w : World) (hS : StAt sb ma mp lb mb S w) :
    Calls Tryz.prog 64 #[.pointer (some ⟨sb, 0, none⟩), str (digest S.n s q)] w fun e w' => ∃ v', e = .returned (.tuple #[v', .int .i64 0]) ∧ RowAt 9 1 v' (strRow (answers S.n (miss S q))) w' ∧ w.grownBy w' none ∧ (∀ g, v'.ownBlock = some g → w.heap.size ≤ g) := by
  have h8 := hG.n8
  have c0 : w.cell? ⟨sb, 0, none⟩ = some (.int .i64 S.n) := cell_blk hS.st 0
  have HR := hide (readT S.n h8 s hs1 hsn q hq w)
  have hBy := fun (w' : World) (hw : StAt sb ma mp lb mb S w') => beyondP sb ma mp lb mb S hG ho (partCk q S.n) (fun i hi => by unfold partCk; rw [if_pos hi]; exact hq i hi) w' hw
  rw [miss_part] at hBy
  have hml := missTo_len hG ho q (fun i hi => (hq i hi).1) S.n (Nat.le_refl _)
  have hWb := fun (v : Value) (w' : World) (hv : RowAt 154 15 v (opRow (miss S q)) w') => writeBsP S.n h8 (miss S q) (by show (missTo S q S.n).length ≤ 1000; omega) (fun x hx => (ho.ok x (miss_mem hx)).1) v w' hv
  unfold ckArr at hBy
  unfold frArr at HR
  generalize answers S.n (miss S q) = AN at hWb ⊢
  generalize miss S q = MS at hBy hWb
  generalize partCk q S.n = qq at HR hBy
  generalize digest S.n s q = D at HR ⊢
  have HBy := hide hBy
  have HWb := hide hWb
  clear hBy hWb hml hq
  go_enter Tryz.func64, Tryz.ntmps64
  go_wp2_with fail
  refine HR.out.mono ?_
  rintro e w1 ⟨rfl, g1⟩
  have hS1 := hS.grown g1
  go_upto_region 2 with fail
  have g2 : w1.grownBy (w1.alloc (.cells #[.int .i64 0, .int .i64 s, .int .i64 (qq 0), .int .i64 (qq 1), .int .i64 (qq 2), .int .i64 (qq 3), .int .i64 (qq 4), .int .i64 (qq 5), .int .i64 (qq 6), .int .i64 (qq 7), .slice none 0 0] 143)) none := grown_alloc (grown_refl _) _
  have k2 : (w1.alloc (.cells #[.int .i64 0, .int .i64 s, .int .i64 (qq 0), .int .i64 (qq 1), .int .i64 (qq 2), .int .i64 (qq 3), .int .i64 (qq 4), .int .i64 (qq 5), .int .i64 (qq 6), .int .i64 (qq 7), .slice none 0 0] 143)).heap[w1.heap.size]? = some (.cells #[.int .i64 0, .int .i64 s, .int .i64 (qq 0), .int .i64 (qq 1), .int .i64 (qq 2), .int .i64 (qq 3), .int .i64 (qq 4), .int .i64 (qq 5), .int .i64 (qq 6), .int .i64 (qq 7), .slice none 0 0] 143) := by rw [heap_alloc_at]; simp
  generalize (w1.alloc (.cells #[.int .i64 0, .int .i64 s, .int .i64 (qq 0), .int .i64 (qq 1), .int .i64 (qq 2), .int .i64 (qq 3), .int .i64 (qq 4), .int .i64 (qq 5), .int .i64 (qq 6), .int .i64 (qq 7), .slice none 0 0] 143)) = w2 at g2 k2 ⊢
  generalize w1.heap.size = bf at k2 ⊢
  have hS2 := hS1.grown g2
  have gA := grown_trans g1 g2
  have a0 : w2.cell? ⟨sb, 0, none⟩ = some (.int .i64 S.n) := cell_blk hS2.st 0
  have d0 : w2.cell? ⟨bf, 0, none⟩ = some (.int .i64 0) := cell_blk k2 0
  have d2 : w2.cell? ⟨bf, 2, none⟩ = some (.int .i64 (qq 0)) := cell_blk k2 2
  have d3 : w2.cell? ⟨bf, 3, none⟩ = some (.int .i64 (qq 1)) := cell_blk k2 3
  have d4 : w2.cell? ⟨bf, 4, none⟩ = some (.int .i64 (qq 2)) := cell_blk k2 4
  have d5 : w2.cell? ⟨bf, 5, none⟩ = some (.int .i64 (qq 3)) := cell_blk k2 5
  have d6 : w2.cell? ⟨bf, 6, none⟩ = some (.int .i64 (qq 4)) := cell_blk k2 6
  have d7 : w2.cell? ⟨bf, 7, none⟩ = some (.int .i64 (qq 5)) := cell_blk k2 7
  have d8 : w2.cell? ⟨bf, 8, none⟩ = some (.int .i64 (qq 6)) := cell_blk k2 8
  have d9 : w2.cell? ⟨bf, 9, none⟩ = some (.int .i64 (qq 7)) := cell_blk k2 9
  have HB2 := hide (HBy.out w2.drew (hS2.grown (grown_drew (grown_refl w2))))
  clear c0 HR HBy hS1 hS k2 g1 g2
  go_upto_region 7 with fail
  go_region_held3 (fun w' => w'.cell? ⟨sb, 0, none⟩ = some (.int .i64 S.n) ∧ w'.cell? ⟨bf, 2, none⟩ = some (.int .i64 (qq 0)) ∧ w'.cell? ⟨bf, 3, none⟩ = some (.int .i64 (qq 1)) ∧ w'.cell? ⟨bf, 4, none⟩ = some (.int .i64 (qq 2)) ∧ w'.cell? ⟨bf, 5, none⟩ = some (.int .i64 (qq 3)) ∧ w'.cell? ⟨bf, 6, none⟩ = some (.int .i64 (qq 4)) ∧ w'.cell? ⟨bf, 7, none⟩ = some (.int .i64 (qq 5)) ∧ w'.cell? ⟨bf, 8, none⟩ = some (.int .i64 (qq 6)) ∧ w'.cell? ⟨bf, 9, none⟩ = some (.int .i64 (qq 7)))
    (first | go_keep | exact ⟨ck _ _ a0, ck _ _ d2, ck _ _ d3, ck _ _ d4, ck _ _ d5, ck _ _ d6, ck _ _ d7, ck _ _ d8, ck _ _ d9⟩)
    (first | (go_at_call 89; refine HB2.out.mono ?_; rintro e w3 ⟨v3, rfl, hR3, g3⟩; have ck : ∀ (a : Addr) (x : Value), w2.cell? a = some x → w3.cell? a = some x := fun a x hx => cell_of_grown hx (grown_trans (grown_drew (grown_refl w2)) g3)) | (go_at_call 88; refine (HWb.out _ _ hR3).mono ?_; rintro e w4 ⟨v4, rfl, hR4, g4, hO4⟩; have ck : ∀ (a : Addr) (x : Value), w2.cell? a = some x → w4.cell? a = some x := fun a x hx => cell_of_grown hx (grown_trans (grown_trans (grown_drew (grown_refl w2)) g3) g4)))
  all_goals
    go_wp2_with fail
    exact bodyPost_ret (v := .tuple #[v4, .int .i64 0]) (by simp [results, Tryz.results64, go_sem]) rfl ⟨v4, rfl, hR4, grown_trans gA (grown_trans (grown_trans (grown_drew (grown_refl w2)) g3) g4), fun g hg => by have := hO4 g hg; have := g3.size; have := gA.size; have : w2.drew.heap.size = w2.heap.size := rfl; omega⟩

end Go.Proofs.YtachmkhbbbmioaaGreat

namespace Go.Proofs.YtachmkhbbbmioaaGreat
open Go.RowKit Go.Shelf Go.MuLone

set_option maxRecDepth 100000 in
set_option maxHeartbeats 1000000 in
theorem face_tick (cb sb ma mp lb mb : Nat) (S : CS) (w : World) (h : CpAt cb sb ma mp lb mb S w) (v : Value) (Post : World → Prop)
    (hin : ∀ w1, w1.heap.size = w.heap.size → StAt sb ma mp lb mb S w1 → Calls Tryz.prog 63 #[.pointer (some ⟨sb, 0, none⟩)] w1 fun e w2 => e = .returned v ∧ Post w2 ∧ Fr (own3 sb ma mb) w1 w2) :
    Calls Tryz.prog 30 #[.pointer (some ⟨cb, 0, none⟩)] w fun e w' => e = .returned v ∧ ∃ w2, Post w2 ∧ w2.heap[cb]? = some (.cells #[.int .i32 1, .int .u32 0, .pointer (some ⟨sb, 0, none⟩)] 112) ∧ w' = w2.setCell ⟨cb, 0, none⟩ (.int .i32 0) ∧ Fr (own4 cb sb ma mb) w w' := by
  have c0 : w.cell? ⟨cb, 0, none⟩ = some (.int .i32 0) := cell_blk h.cp 0
  have f0 : w.frozen? ⟨cb, 0, none⟩ = false := frozen_blk h.cp 0
  obtain ⟨n1, n2, n3, n4, n5⟩ := h.ne
  have hS1 := h.locked (.int .i32 1)
  have k1 : (w.setCell ⟨cb, 0, none⟩ (.int .i32 1)).heap[cb]? = some (.cells #[.int .i32 1, .int .u32 0, .pointer (some ⟨sb, 0, none⟩)] 112) := by rw [set_blk h.cp]; rfl
  have c2 : (w.setCell ⟨cb, 0, none⟩ (.int .i32 1)).cell? ⟨cb, 2, none⟩ = some (.pointer (some ⟨sb, 0, none⟩)) := cell_blk k1 2
  have hF1 : Fr (own4 cb sb ma mb) w (w.setCell ⟨cb, 0, none⟩ (.int .i32 1)) := (Fr.refl _ w).setCell (.inl (by simp)) _
  have hC := hide (hin (w.setCell ⟨cb, 0, none⟩ (.int .i32 1)) (by simp [World.setCell]) hS1)
  clear hin
  go_enter_defers Tryz.func30, Tryz.ntmps30
  go_wp2_with (go_at_call 59; refine (lock_free muLib ⟨cb, 0, none⟩ _ c0 f0).mono ?_; rintro e w' ⟨rfl, rfl⟩)
  refine hC.out.mono ?_
  rintro e w2 ⟨rfl, hP, hF2⟩
  have k2 : w2.heap[cb]? = some (.cells #[.int .i32 1, .int .u32 0, .pointer (some ⟨sb, 0, none⟩)] 112) := hF2.blk k1 (by simp [n1, n2, n5])
  go_wp2_with fail
  refine leaves_cons (f := 60) (args := #[.pointer (some ⟨cb, 0, none⟩)]) (by simp) (by simp [go_sem]) ?_
  refine (unlock_deferred muLib ⟨cb, 0, none⟩ .returning _ (cell_blk k2 0) (frozen_blk k2 0)).mono ?_
  rintro e u' w3 ⟨rfl, rfl, rfl⟩
  exact ⟨_, results_tmp rfl _ _ _, rfl, w2, hP, k2, rfl, (hF1.trans (hF2.mono (by simp))).setCell (.inl (by simp)) _⟩

set_option maxRecDepth 100000 in
set_option maxHeartbeats 1000000 in
theorem face_hand (cb sb ma mp lb mb : Nat) (S : CS) (D : Value) (w : World) (h : CpAt cb sb ma mp lb mb S w) (Post : Value → World → Prop)
    (hin : ∀ w1, w1.heap.size = w.heap.size → StAt sb ma mp lb mb S w1 → Calls Tryz.prog 64 #[.pointer (some ⟨sb, 0, none⟩), D] w1 fun e w2 => ∃ v, e = .returned (.tuple #[v, .int .i64 0]) ∧ Post v w2 ∧ Fr (own3 sb ma mb) w1 w2) :
    Calls Tryz.prog 31 #[.pointer (some ⟨cb, 0, none⟩), D] w fun e w' => ∃ v, e = .returned (.tuple #[v, .int .i64 0]) ∧ ∃ w2, Post v w2 ∧ w2.heap[cb]? = some (.cells #[.int .i32 1, .int .u32 0, .pointer (some ⟨sb, 0, none⟩)] 112) ∧ w' = w2.setCell ⟨cb, 0, none⟩ (.int .i32 0) ∧ Fr (own4 cb sb ma mb) w w' := by
  have c0 : w.cell? ⟨cb, 0, none⟩ = some (.int .i32 0) := cell_blk h.cp 0
  have f0 : w.frozen? ⟨cb, 0, none⟩ = false := frozen_blk h.cp 0
  obtain ⟨n1, n2, n3, n4, n5⟩ := h.ne
  have hS1 := h.locked (.int .i32 1)
  have k1 : (w.setCell ⟨cb, 0, none⟩ (.int .i32 1)).heap[cb]? = some (.cells #[.int .i32 1, .int .u32 0, .pointer (some ⟨sb, 0, none⟩)] 112) := by rw [set_blk h.cp]; rfl
  have c2 : (w.setCell ⟨cb, 0, none⟩ (.int .i32 1)).cell? ⟨cb, 2, none⟩ = some (.pointer (some ⟨sb, 0, none⟩)) := cell_blk k1 2
  have hF1 : Fr (own4 cb sb ma mb) w (w.setCell ⟨cb, 0, none⟩ (.int .i32 1)) := (Fr.refl _ w).setCell (.inl (by simp)) _
  have hC := hide (hin (w.setCell ⟨cb, 0, none⟩ (.int .i32 1)) (by simp [World.setCell]) hS1)
  clear hin
  go_enter_defers Tryz.func31, Tryz.ntmps31
  go_wp2_with (go_at_call 59; refine (lock_free muLib ⟨cb, 0, none⟩ _ c0 f0).mono ?_; rintro e w' ⟨rfl, rfl⟩)
  refine hC.out.mono ?_
  rintro e w2 ⟨v, rfl, hP, hF2⟩
  have k2 : w2.heap[cb]? = some (.cells #[.int .i32 1, .int .u32 0, .pointer (some ⟨sb, 0, none⟩)] 112) := hF2.blk k1 (by simp [n1, n2, n5])
  go_wp2_with fail
  refine leaves_cons (f := 60) (args := #[.pointer (some ⟨cb, 0, none⟩)]) (by simp) (by simp [go_sem]) ?_
  refine (unlock_deferred muLib ⟨cb, 0, none⟩ .returning _ (cell_blk k2 0) (frozen_blk k2 0)).mono ?_
  rintro e u' w3 ⟨rfl, rfl, rfl⟩
  exact ⟨.tuple #[v, .int .i64 0], by simp [results, Tryz.results31, go_sem], v, rfl, w2, hP, k2, rfl, (hF1.trans (hF2.mono (by simp))).setCell (.inl (by simp)) _⟩

end Go.Proofs.YtachmkhbbbmioaaGreat

namespace Go.Proofs.YtachmkhbbbmioaaGreat
open Go.RowKit Go.Shelf

theorem pair_prog {x : Pr} {w w1 : World} (h : PairAt x w) (hc : CpAt x.cb x.sb x.ma x.mp x.lb x.mb x.S w1) (hF : Fr (own4 x.cb x.sb x.ma x.mb) w w1) : PairAt x w1 ∧ Fr x.own w w1 :=
  ⟨⟨hc, ref_after h hF, h.good, h.len, h.log, h.ops, lg_prog h hF, h.kd, wl_prog h hF, h.wo⟩, hF.mono (own4_sub x)⟩

theorem PairAt.below {x : Pr} {w w1 : World} (h : PairAt x w) (hB : Below w.heap.size w w1) : PairAt x w1 := h.kept (fun k hk => hB.block k (h.lt k hk))

theorem ask_text (x : Pr) (w : World) (h : PairAt x w) :
    Calls Tryz.prog 26 #[.pointer (some ⟨x.cb, 0, none⟩)] w fun e w1 => e = .returned (.string ⟨(txt (vis x.S.L)).toArray⟩) ∧ PairAt x w1 ∧ Fr x.own w w1 := by
  refine (face_text x.cb x.sb x.ma x.mp x.lb x.mb x.S w h.cp (.string ⟨(txt (vis x.S.L)).toArray⟩) (fun w2 => StAt x.sb x.ma x.mp x.lb x.mb x.S w2) (fun w1 _ hS => ?_)).mono ?_
  · refine (stText_any _ _ _ _ _ x.S w1 hS h.good.len).mono ?_
    rintro e w2 ⟨rfl, hB⟩
    exact ⟨rfl, hS.below hB, Fr.ofBelow hB⟩
  · rintro e w' ⟨rfl, w2, hS2, hk, rfl, hF⟩
    exact ⟨rfl, pair_prog h (CpAt.unlock hS2 hk) hF⟩

theorem ask_len (x : Pr) (w : World) (h : PairAt x w) :
    Calls Tryz.prog 44 #[.pointer (some ⟨x.cb, 0, none⟩)] w fun e w1 => e = .returned (.int .i64 (vis x.S.L).length) ∧ PairAt x w1 ∧ Fr x.own w w1 := by
  refine (face_len x.cb x.sb x.ma x.mp x.lb x.mb x.S w h.cp (.int .i64 (vis x.S.L).length) (fun w2 => StAt x.sb x.ma x.mp x.lb x.mb x.S w2) (fun w1 _ hS => ?_)).mono ?_
  · refine (stLen_any _ _ _ _ _ x.S w1 hS h.good.len).mono ?_
    rintro e w2 ⟨rfl, hB⟩
    exact ⟨rfl, hS.below hB, Fr.ofBelow hB⟩
  · rintro e w' ⟨rfl, w2, hS2, hk, rfl, hF⟩
    exact ⟨rfl, pair_prog h (CpAt.unlock hS2 hk) hF⟩

theorem ask_pending (x : Pr) (w : World) (h : PairAt x w) :
    Calls Tryz.prog 49 #[.pointer (some ⟨x.cb, 0, none⟩)] w fun e w1 => e = .returned (.int .i64 x.S.wt.length) ∧ PairAt x w1 ∧ Fr x.own w w1 := by
  refine (face_pending x.cb x.sb x.ma x.mp x.lb x.mb x.S w h.cp (.int .i64 x.S.wt.length) (fun w2 => StAt x.sb x.ma x.mp x.lb x.mb x.S w2) (fun w1 _ hS => ?_)).mono ?_
  · refine (stPending_any _ _ _ _ _ x.S w1 hS).mono ?_
    rintro e w2 ⟨rfl, hB⟩
    exact ⟨rfl, hS.below hB, Fr.ofBelow hB⟩
  · rintro e w' ⟨rfl, w2, hS2, hk, rfl, hF⟩
    exact ⟨rfl, pair_prog h (CpAt.unlock hS2 hk) hF⟩

theorem cl_flat (S : CS) : (ckRow S).flatten = clCells S := by
  unfold ckRow clCells
  induction List.range S.n with
  | nil => rfl
  | cons a l ih => rw [List.map_cons, List.flatten_cons, ih, List.map_cons]; rfl

theorem ask_clock (x : Pr) (w : World) (h : PairAt x w) :
    Calls Tryz.prog 28 #[.pointer (some ⟨x.cb, 0, none⟩)] w fun e w1 => e = .returned (.slice (some ⟨w.heap.size, 0, none⟩) x.S.n x.S.n) ∧ RowAt 3 1 (.slice (some ⟨w.heap.size, 0, none⟩) x.S.n x.S.n) (ckRow x.S) w1 ∧ PairAt x w1 ∧ Fr x.own w w1 := by
  refine (face_clock x.cb x.sb x.ma x.mp x.lb x.mb x.S w h.cp (.slice (some ⟨w.heap.size, 0, none⟩) x.S.n x.S.n) (fun w2 => StAt x.sb x.ma x.mp x.lb x.mb x.S w2 ∧ w2.heap[w.heap.size]? = some (.cells (clCells x.S).toArray 3)) (fun w1 hs hS => ?_)).mono ?_
  · refine (stClock_any _ _ _ _ _ x.S h.good w1 hS).mono ?_
    rintro e w2 ⟨rfl, hc, hB⟩
    rw [← hs]
    exact ⟨rfl, ⟨hS.below hB, hc⟩, Fr.ofBelow hB⟩
  · rintro e w' ⟨rfl, w2, ⟨hS2, hc⟩, hk, rfl, hF⟩
    have hlt := lt_of_heap h.cp.cp
    have h8 := h.good.n8
    have hb : (w2.setCell ⟨x.cb, 0, none⟩ (.int .i32 0)).heap[w.heap.size]? = some (.cells (clCells x.S).toArray 3) := by rw [Below.heap_setCell _ _ _ _ (by simp; omega)]; exact hc
    refine ⟨rfl, ⟨⟨by rw [cl_flat, ckRow_len]; simp [clCells], .inr ⟨_, _, _, by rw [ckRow_len], Nat.zero_le _, hb, by rw [ckRow_len]; exact Nat.le_refl _, by unfold maxLen; omega, by simp [clCells], ?_⟩⟩, ?_⟩, pair_prog h (CpAt.unlock hS2 hk) hF⟩
    · rw [cl_flat, ckRow_len]; exact List.take_of_length_le (by simp [clCells])
    · intro y hy
      obtain ⟨i, -, rfl⟩ := List.mem_map.1 hy
      rfl

theorem ck_at (S : CS) {i : Nat} (h : i < (ckRow S).length) : (ckRow S)[i]? = some [.int .i64 (S.cl i)] := ckRow_at S (by rwa [ckRow_len] at h)

set_option maxRecDepth 100000 in
set_option maxHeartbeats 1000000 in
theorem same_ints (S : CS) (h8 : S.n ≤ 8) (v u : Value) (w : World) (hv : RowAt 3 1 v (ckRow S) w) (hu : RowAt 3 1 u (ckRow S) w) :
    Calls Tryz.prog 46 #[v, u] w fun e w' => e = .returned (.bool true) ∧ w.grownBy w' none := by
  obtain ⟨av, cv, rfl, hcv⟩ := hv.value
  obtain ⟨au, cu, rfl, hcu⟩ := hu.value
  rw [ckRow_len] at hv hu hcv hcu ⊢
  have hne : ((S.n : Int) != (S.n : Int)) = false := by simp
  go_enter Tryz.func46, Tryz.ntmps46
  go_wp2_with fail
  go_loopg [5] S.n (fun g s5 wr => ∃ (i : Nat), s5 = .int .i64 i ∧ i ≤ S.n ∧ g = S.n - i ∧ w.grownBy wr none)
  case atStart => exact ⟨0, rfl, by omega, rfl, grown_refl _⟩
  case round =>
    obtain ⟨i, rfl, hi, hgk, hG⟩ := hrel
    by_cases hlt : i < S.n
    · have hli : (i : Int) < (S.n : Int) := by omega
      obtain ⟨g1, c1, cur1, hv1, -, hb1, hx1⟩ := (hv.grown hG).cell (i := i) (ckRow_at S hlt)
      obtain ⟨g2, c2, cur2, hv2, -, hb2, hx2⟩ := (hu.grown hG).cell (i := i) (ckRow_at S hlt)
      rw [ckRow_len] at hv1 hv2
      cases hv1
      cases hv2
      have k1 : wr.cell? ⟨g1, i, none⟩ = some (.int .i64 (S.cl i)) := (cell_blk hb1 _).trans (by simpa using hx1 0 _ rfl)
      have k2 : wr.cell? ⟨g2, i, none⟩ = some (.int .i64 (S.cl i)) := (cell_blk hb2 _).trans (by simpa using hx2 0 _ rfl)
      have hn2 : (S.cl i != S.cl i) = false := by simp
      go_wp2_with fail
      go_quiet (fail)
      go_wp2_with fail
      go_roundg (S.n - (i + 1))
      case measure => omega
      case rel => exact ⟨i + 1, by go_num, by omega, rfl, grown_trans hG (grown_drewN _ _)⟩
    · go_wp2_with fail
      go_ret
      exact ⟨rfl, hG⟩

/-- A list that is full of one number. -/
def fullRow (n : Nat) (m : Int) : List (List Value) := List.replicate n [.int .i64 m]
theorem fullRow_len (n : Nat) (m : Int) : (fullRow n m).length = n := by simp [fullRow]
theorem fullRow_at {n i : Nat} {m : Int} (h : i < n) : (fullRow n m)[i]? = some [.int .i64 m] := by simp [fullRow, h]

set_option maxRecDepth 100000 in
set_option maxHeartbeats 1000000 in
theorem full_ints (n : Nat) (h8 : n ≤ 1000) (m : Int) (v : Value) (w : World) (hv : RowAt 3 1 v (fullRow n m) w) :
    Calls Tryz.prog 52 #[v, .int .i64 m] w fun e w' => e = .returned (.bool true) ∧ w' = w := by
  obtain ⟨av, cv, rfl, hcv⟩ := hv.value
  rw [fullRow_len] at hv hcv ⊢
  go_enter Tryz.func52, Tryz.ntmps52
  go_wp2_with fail
  go_loopg [5] n (fun g s5 wr => ∃ (i : Nat), s5 = .int .i64 i ∧ i ≤ n ∧ g = n - i ∧ wr = w)
  case atStart => exact ⟨0, rfl, by omega, rfl, rfl⟩
  case round =>
    obtain ⟨i, rfl, hi, hgk, hw⟩ := hrel
    rw [hw]
    clear hw wr
    by_cases hlt : i < n
    · have hli : (i : Int) < (n : Int) := by omega
      obtain ⟨g1, c1, cur1, hv1, -, hb1, hx1⟩ := hv.cell (i := i) (fullRow_at hlt)
      rw [fullRow_len] at hv1
      cases hv1
      have k1 : w.cell? ⟨g1, i, none⟩ = some (.int .i64 m) := (cell_blk hb1 _).trans (by simpa using hx1 0 _ rfl)
      have hn2 : (m != m) = false := by simp
      go_wp2_with fail
      go_roundg (n - (i + 1))
      case measure => omega
      case rel => exact ⟨i + 1, by go_num, by omega, rfl, rfl⟩
    · go_wp2_with fail
      go_ret
      exact ⟨rfl, rfl⟩

end Go.Proofs.YtachmkhbbbmioaaGreat

namespace Go.Proofs.YtachmkhbbbmioaaGreat
open Go.RowKit Go.Shelf

theorem ask_tick (x : Pr) (w : World) (h : PairAt x w) :
    Calls Tryz.prog 30 #[.pointer (some ⟨x.cb, 0, none⟩)] w fun e w1 => e = .returned (str (digest x.S.n x.S.s x.S.cl)) ∧ PairAt x w1 ∧ Fr x.own w w1 := by
  refine (face_tick x.cb x.sb x.ma x.mp x.lb x.mb x.S w h.cp (str (digest x.S.n x.S.s x.S.cl)) (fun w2 => StAt x.sb x.ma x.mp x.lb x.mb x.S w2) (fun w1 _ hS => ?_)).mono ?_
  · refine (stTickP _ _ _ _ _ x.S h.good w1 hS).mono ?_
    rintro e w2 ⟨rfl, hg⟩
    exact ⟨rfl, hS.grown hg, Fr.ofGrown hg⟩
  · rintro e w' ⟨rfl, w2, hS2, hk, rfl, hF⟩
    exact ⟨rfl, pair_prog h (CpAt.unlock hS2 hk) hF⟩

theorem hand_prog (x : Pr) (s : Int) (hs1 : 1 ≤ s) (hsn : s ≤ x.S.n) (q : Nat → Int) (hq : ∀ i, i < x.S.n → 0 ≤ q i ∧ q i ≤ 100) (w : World) (h : PairAt x w) :
    Calls Tryz.prog 31 #[.pointer (some ⟨x.cb, 0, none⟩), str (digest x.S.n s q)] w fun e w1 => ∃ v, e = .returned (.tuple #[v, .int .i64 0]) ∧ RowAt 9 1 v (strRow (answers x.S.n (miss x.S q))) w1 ∧ (∀ g, v.ownBlock = some g → w.heap.size ≤ g) ∧ PairAt x w1 ∧ Fr x.own w w1 := by
  have hcb := lt_of_heap h.cp.cp
  refine (face_hand x.cb x.sb x.ma x.mp x.lb x.mb x.S (str (digest x.S.n s q)) w h.cp (fun v w2 => StAt x.sb x.ma x.mp x.lb x.mb x.S w2 ∧ RowAt 9 1 v (strRow (answers x.S.n (miss x.S q))) w2 ∧ ∀ g, v.ownBlock = some g → w.heap.size ≤ g) (fun w1 hw1 hS => ?_)).mono ?_
  · refine (stHandP _ _ _ _ _ x.S h.good h.ops s hs1 hsn q hq w1 hS).mono ?_
    rintro e w2 ⟨v, rfl, hR, hg, hO⟩
    exact ⟨v, rfl, ⟨hS.grown hg, hR, fun g hg => by rw [← hw1]; exact hO g hg⟩, Fr.ofGrown hg⟩
  · rintro e w' ⟨v, rfl, w2, ⟨hS2, hR, hO⟩, hk, rfl, hF⟩
    refine ⟨v, rfl, hR.kept (fun g hg => Below.heap_setCell _ _ _ _ (by have := hO g hg; simp; omega)), hO, pair_prog h (CpAt.unlock hS2 hk) hF⟩

theorem hand_ref (x : Pr) (s : Int) (hs1 : 1 ≤ s) (hsn : s ≤ x.S.n) (q : Nat → Int) (hq : ∀ i, i < x.S.n → 0 ≤ q i ∧ q i ≤ 100) (w : World) (h : PairAt x w) :
    Calls Tryz.prog 37 #[.pointer (some ⟨x.yb, 0, none⟩), str (digest x.S.n s q)] w fun e w1 => ∃ v, e = .returned (.tuple #[v, .int .i64 0]) ∧ RowAt 9 1 v (strRow (answers x.S.n (miss x.S q))) w1 ∧ w.grownBy w1 none ∧ (∀ g, v.ownBlock = some g → w.heap.size ≤ g) :=
  ref_hand x.yb x.S h.good h.ops _ _ _ _ _ _ x.ks s hs1 hsn q hq w h.rf h.lg (by have := h.l1000; omega)

end Go.Proofs.YtachmkhbbbmioaaGreat

namespace Go.Proofs.YtachmkhbbbmioaaGreat
open Go.RowKit Go.Shelf
attribute [local go_sem ↓] Go.wp_at_zero Go.wp_at_succ
attribute [local simp] entsAt_drew entsAt_setCell entsAt_alloc

/-- Is a mark that of an element, or the beginning? -/
def hasM (c k : Int) (L : List El) : Bool := decide (c = 0 ∧ k = 0) || L.any fun x => x.c == c && x.k == k

theorem chain_look {E : List Ent} {L : List El} (h : chain E L) {x : El} (hx : x ∈ L) : ∃ a b, look x.c x.k E = some (ev x.r x.d a b) := by
  obtain ⟨A, R, rfl⟩ := List.append_of_mem hx
  exact ⟨_, _, (chain_at h).1⟩

theorem look_cases {E : List Ent} {L : List El} (h : LineIs E L) (c k : Int) : (look c k E = none ∧ hasM c k L = false) ∨ ((∃ r d a b, look c k E = some (ev r d a b)) ∧ hasM c k L = true) := by
  by_cases hn : look c k E = none
  · refine .inl ⟨hn, ?_⟩
    unfold hasM
    rw [Bool.or_eq_false_iff]
    refine ⟨?_, ?_⟩
    · apply decide_eq_false
      rintro ⟨rfl, rfl⟩
      rw [h.begin] at hn
      cases hn
    · rw [List.any_eq_false]
      intro x hx q
      simp only [Bool.and_eq_true, beq_iff_eq] at q
      obtain ⟨a, b, e⟩ := chain_look h.chain hx
      rw [q.1, q.2, hn] at e
      cases e
  · refine .inr ?_
    rcases h.only c k hn with ⟨rfl, rfl⟩ | ⟨x, hx, rfl, rfl⟩
    · exact ⟨⟨_, _, _, _, h.begin⟩, by simp [hasM]⟩
    · obtain ⟨a, b, e⟩ := chain_look h.chain hx
      refine ⟨⟨_, _, _, _, e⟩, ?_⟩
      unfold hasM
      rw [Bool.or_eq_true]
      right
      rw [List.any_eq_true]
      exact ⟨x, hx, by simp⟩

set_option maxRecDepth 100000 in
set_option maxHeartbeats 2000000 in
theorem has_any (lb mb : Nat) (E : List Ent) (L : List El) (c k : Int) (w : World) (hl : Ln lb mb E w) (hL : LineIs E L) :
    Calls Tryz.prog 155 #[.pointer (some ⟨lb, 0, none⟩), .agg #[.int .i64 c, .int .i64 k]] w fun e w' => e = .returned (.bool (hasM c k L)) ∧ w.grownBy w' none := by
  obtain ⟨r, d, a, b, f, hlk, hf⟩ : ∃ r d a b f, (∀ w', entsAt w' mb E → (Instr.lookup 204 (.map (some mb)) (.agg #[.int .i64 c, .int .i64 k]) true).run Tryz.prog w' = .ok (.tuple #[.agg #[.int .i32 r, .bool d, .int .i64 a, .int .i64 b], .bool f]) w') ∧ hasM c k L = f := by
    have hlk := fun w' (h : entsAt w' mb E) => lookOk E w' mb h c k
    rcases look_cases hL c k with ⟨e, hf⟩ | ⟨⟨r, d, a, b, e⟩, hf⟩
    · rw [e] at hlk; exact ⟨_, _, _, _, _, hlk, hf⟩
    · rw [e] at hlk; exact ⟨_, _, _, _, _, hlk, hf⟩
  rw [hf]
  clear hf hL
  go_enter Tryz.func155, Tryz.ntmps155
  go_wp2_with fail
  have g1 : w.grownBy (w.alloc (.cells #[.int .i64 c, .int .i64 k] 152)) none := grown_alloc (grown_refl _) _
  have k3 : (w.alloc (.cells #[.int .i64 c, .int .i64 k] 152)).heap[w.heap.size]? = some (.cells #[.int .i64 c, .int .i64 k] 152) := by rw [heap_alloc_at]; simp
  generalize (w.alloc (.cells #[.int .i64 c, .int .i64 k] 152)) = w1 at g1 k3 ⊢
  have hl1 := hl.grown g1
  have c3 : w1.cell? ⟨lb, 0, none⟩ = some (.map (some mb)) := cell_blk hl1.line 0
  have c4 := hl1.ents
  have c5 : w1.cell? ⟨w.heap.size, 0, none⟩ = some (.int .i64 c) := cell_blk k3 0
  have c6 : w1.cell? ⟨w.heap.size, 1, none⟩ = some (.int .i64 k) := cell_blk k3 1
  have n1 := World.new_ne w1 _ c3
  have n2 := World.new_ne w1 _ c5
  go_cut [5, 6] (fun _ s6 wx => s6 = .bool f ∧ w1.grownBy wx none)
  case first =>
    go_region_held3 (fun w' => w'.cell? ⟨lb, 0, none⟩ = some (.map (some mb)) ∧ entsAt w' mb E ∧ w'.cell? ⟨w.heap.size, 0, none⟩ = some (.int .i64 c) ∧ w'.cell? ⟨w.heap.size, 1, none⟩ = some (.int .i64 k)) (go_keep) (fail)
    all_goals (go_wp2_with fail; go_meet)
    all_goals exact ⟨rfl, by repeat (first | exact grown_refl _ | refine grown_drew ?_ | refine grown_alloc ?_ _)⟩
  case rest =>
  obtain ⟨rfl, g2⟩ := hcut
  go_wp2_with fail
  go_ret
  exact ⟨rfl, grown_trans g1 g2⟩

theorem ckIndex (q : Nat → Int) (w : World) : ∀ i : Nat, i < 8 → (Instr.index 134 (.agg #[.int .i64 (q 0), .int .i64 (q 1), .int .i64 (q 2), .int .i64 (q 3), .int .i64 (q 4), .int .i64 (q 5), .int .i64 (q 6), .int .i64 (q 7)]) (.int .i64 (i : Int))).run Tryz.prog w = .ok (.int .i64 (q i)) w
  | 0, _ => by kernel_rfl
  | 1, _ => by kernel_rfl
  | 2, _ => by kernel_rfl
  | 3, _ => by kernel_rfl
  | 4, _ => by kernel_rfl
  | 5, _ => by kernel_rfl
  | 6, _ => by kernel_rfl
  | 7, _ => by kernel_rfl
  | _ + 8, h => by omega

/-- Is a clock within another one? -/
def CovR (cl q : Nat → Int) (w : World) (e : Ending) (w' : World) : Prop := ∃ b, e = .returned (.bool b) ∧ w.grownBy w' none ∧ (b = true ↔ ∀ i, i < 8 → q i ≤ cl i)

set_option maxRecDepth 100000 in
set_option maxHeartbeats 4000000 in
theorem covers_any (sb : Nat) (cl q : Nat → Int) (w : World) (hc : ∀ i, i < 8 → w.cell? ⟨sb, 2 + i, none⟩ = some (.int .i64 (cl i))) :
    Calls Tryz.prog 154 #[.pointer (some ⟨sb, 2, none⟩), .agg #[.int .i64 (q 0), .int .i64 (q 1), .int .i64 (q 2), .int .i64 (q 3), .int .i64 (q 4), .int .i64 (q 5), .int .i64 (q 6), .int .i64 (q 7)]] w fun e w' => CovR cl q w e w' := by
  have HC := hide hc
  clear hc
  go_enter Tryz.func154, Tryz.ntmps154
  go_wp2_with fail
  have g1 : w.grownBy (w.alloc (.cells #[.int .i64 (q 0), .int .i64 (q 1), .int .i64 (q 2), .int .i64 (q 3), .int .i64 (q 4), .int .i64 (q 5), .int .i64 (q 6), .int .i64 (q 7)] 134)) none := grown_alloc (grown_refl _) _
  generalize (w.alloc (.cells #[.int .i64 (q 0), .int .i64 (q 1), .int .i64 (q 2), .int .i64 (q 3), .int .i64 (q 4), .int .i64 (q 5), .int .i64 (q 6), .int .i64 (q 7)] 134)) = w1 at g1 ⊢
  go_loopg [8] 8 (fun gk s8 wr => ∃ i : Nat, s8 = .int .i64 i ∧ i ≤ 8 ∧ gk = 8 - i ∧ w1.grownBy wr none ∧ Hid (∀ j, j < i → q j ≤ cl j))
  case atStart => exact ⟨0, rfl, by omega, rfl, grown_refl _, hide (by intro j hj; omega)⟩
  case round =>
    obtain ⟨i, rfl, hil, hgk, hG, hso⟩ := hrel
    by_cases hlt : i < 8
    · have hli : (i : Int) < 8 := by omega
      have hix := fun w => ckIndex q w i hlt
      have hci : wr.cell? ⟨sb, 2 + i, none⟩ = some (.int .i64 (cl i)) := cell_of_grown (HC.out i hlt) (grown_trans g1 hG)
      by_cases hgt : cl i < q i
      · have HN : Hid (¬ ∀ i, i < 8 → q i ≤ cl i) := hide (fun z => by have := z i hlt; omega)
        go_wp2_with fail
        exact bodyPost_ret (v := .bool false) (by simp [results, Tryz.results154, go_sem]) rfl ⟨false, rfl, grown_trans g1 hG, by simpa using HN.out⟩
      · go_wp2_with fail
        go_roundg (8 - (i + 1))
        case measure => omega
        case rel =>
          refine ⟨i + 1, by go_num, by omega, rfl, hG, hide ?_⟩
          intro j hj
          by_cases e : j = i
          · subst e; omega
          · exact hso.out j (by omega)
    · have HQ : Hid (∀ j, j < 8 → q j ≤ cl j) := hide (fun j hj => hso.out j (by omega))
      go_wp2_with fail
      exact bodyPost_ret (v := .bool true) (by simp [results, Tryz.results154, go_sem]) rfl ⟨true, rfl, grown_trans g1 hG, by simpa using HQ.out⟩

end Go.Proofs.YtachmkhbbbmioaaGreat

namespace Go.Proofs.YtachmkhbbbmioaaGreat
open Go.RowKit Go.Shelf

/-- The element that an insert lays. -/
def OpR.el (x : OpR) (h : Sc x.r) : El := ⟨x.c, x.o, x.r, false, h⟩

def layAt (e : El) (tc tk : Int) : List El → List El
  | [] => []
  | y :: L => if y.c = tc ∧ y.k = tk then y :: behind e L else y :: layAt e tc tk L

def strikeAt (tc tk : Int) (L : List El) : List El := L.map fun y => if y.c = tc ∧ y.k = tk then gone y else y

instance decSc (r : Int) : Decidable (Sc r) := by unfold Sc; infer_instance

def applyL (x : OpR) (L : List El) : List El := if x.kind = 1 then strikeAt x.tc x.tk L else if h : Sc x.r then (if x.tc = 0 ∧ x.tk = 0 then behind (x.el h) L else layAt (x.el h) x.tc x.tk L) else L

/-- What a copy knows behind an operation that is applied. -/
def applyS (S : CS) (x : OpR) : CS := { S with cl := bump S.cl (x.o.toNat - 1), g := max S.g x.c, L := applyL x S.L, ops := x :: S.ops }

/-- P11. -/
def RdyS (S : CS) (x : OpR) : Prop := x.num = S.cl (x.o.toNat - 1) + 1 ∧ (∀ i, i < 8 → x.q i ≤ S.cl i) ∧ hasM x.tc x.tk S.L = true ∧ (x.kind = 1 ∨ hasM x.c x.o S.L = false)

theorem layAt_cut (e : El) {y : El} : ∀ {B R : List El}, (∀ z ∈ B, ¬ (z.c = y.c ∧ z.k = y.k)) → layAt e y.c y.k (B ++ y :: R) = B ++ y :: behind e R
  | [], R, _ => by simp [layAt]
  | z :: B, R, h => by
    have h1 := h z (by simp)
    rw [List.cons_append, layAt, if_neg h1, layAt_cut e (fun z hz => h z (by simp [hz]))]
    rfl

theorem strikeAt_out {tc tk : Int} {L : List El} (h : ∀ z ∈ L, ¬ (z.c = tc ∧ z.k = tk)) : strikeAt tc tk L = L := by
  unfold strikeAt
  conv => rhs; rw [← List.map_id L]
  apply List.map_congr_left
  intro z hz
  rw [if_neg (h z hz)]; rfl

theorem strikeAt_cut {y : El} {B R : List El} (h : Apart (B ++ y :: R)) : strikeAt y.c y.k (B ++ y :: R) = B ++ gone y :: R := by
  obtain ⟨h1, h2⟩ := apart_mem h
  have e1 := strikeAt_out (tc := y.c) (tk := y.k) h1
  have e2 := strikeAt_out (tc := y.c) (tk := y.k) (fun z hz q => h2 z hz ⟨q.1.symm, q.2.symm⟩)
  unfold strikeAt at e1 e2 ⊢
  rw [List.map_append, List.map_cons, e1, e2, if_pos ⟨rfl, rfl⟩]

theorem hasM_iff {c k : Int} {L : List El} : hasM c k L = true ↔ (c = 0 ∧ k = 0) ∨ ∃ y ∈ L, y.c = c ∧ y.k = k := by
  unfold hasM
  rw [Bool.or_eq_true, decide_eq_true_eq, List.any_eq_true]
  simp only [Bool.and_eq_true, beq_iff_eq]
theorem hasM_false {c k : Int} {L : List El} : hasM c k L = false ↔ ¬ (c = 0 ∧ k = 0) ∧ ∀ y ∈ L, ¬ (y.c = c ∧ y.k = k) := by
  rw [Bool.eq_false_iff, ne_eq, hasM_iff]
  constructor
  · intro h; exact ⟨fun q => h (.inl q), fun y hy q => h (.inr ⟨y, hy, q⟩)⟩
  · rintro ⟨h1, h2⟩ (q | ⟨y, hy, q⟩)
    · exact h1 q
    · exact h2 y hy q

theorem findI_has {c k : Int} {L : List El} : (0 ≤ findI c k L 0 ↔ ∃ y ∈ L, y.c = c ∧ y.k = k) := by
  have : ∀ (L : List El) (i : Nat), (0 ≤ findI c k L i ↔ ∃ y ∈ L, y.c = c ∧ y.k = k) := by
    intro L
    induction L with
    | nil => intro i; simp [findI]
    | cons y L ih =>
      intro i
      unfold findI
      by_cases q : y.c = c ∧ y.k = k
      · rw [if_pos q]; simp [q]
      · rw [if_neg q, ih]; simp [q]
  exact this L 0

/-- Where an insert is laid. -/
theorem cut_ins {n : Nat} {x : OpR} {L : List El} (h8 : Ok8 n x) (hk : x.kind = 0) (hm : hasM x.tc x.tk L = true) (h0 : ∀ y ∈ L, 0 < y.c) (ha : Apart L) :
    ∃ (A R : List El) (h : Sc x.r), L = A ++ R ∧ lc A = x.tc ∧ lk A = x.tk ∧ applyL x L = A ++ behind (x.el h) R ∧ findI x.tc x.tk L 0 = (A.length : Int) - 1 := by
  have hsc := h8.r hk
  have hk1 : ¬ x.kind = 1 := by omega
  by_cases ht : x.tc = 0 ∧ x.tk = 0
  · refine ⟨[], L, hsc, rfl, ht.1.symm, ht.2.symm, ?_, ?_⟩
    · unfold applyL; rw [if_neg hk1, dif_pos hsc, if_pos ht]; rfl
    · rw [ht.1, ht.2, findI_none _ _ _ _ (fun y hy q => by have := h0 y hy; omega)]; rfl
  · rcases hasM_iff.1 hm with q | ⟨y, hy, e1, e2⟩
    · exact (ht q).elim
    · obtain ⟨B, R, rfl⟩ := List.append_of_mem hy
      have eL : B ++ y :: R = (B ++ [y]) ++ R := by simp
      obtain ⟨l1, l2, -, -⟩ := last_snoc B y
      refine ⟨B ++ [y], R, hsc, eL, by rw [l1, e1], by rw [l2, e2], ?_, ?_⟩
      · unfold applyL
        rw [if_neg hk1, dif_pos hsc, if_neg ht, ← e1, ← e2, layAt_cut _ (apart_mem ha).1]
        simp
      · rw [← e1, ← e2, findI_mid ha]; simp

/-- What a delete strikes. -/
theorem cut_del {n : Nat} {x : OpR} {L : List El} (h8 : Ok8 n x) (hk : x.kind = 1) (hm : hasM x.tc x.tk L = true) (ha : Apart L) :
    ∃ (A R : List El) (y : El), L = A ++ y :: R ∧ y.c = x.tc ∧ y.k = x.tk ∧ applyL x L = A ++ gone y :: R ∧ findI x.tc x.tk L 0 = (A.length : Int) := by
  rcases hasM_iff.1 hm with q | ⟨y, hy, e1, e2⟩
  · rcases h8.tgt with t | t
    · omega
    · omega
  · obtain ⟨B, R, rfl⟩ := List.append_of_mem hy
    refine ⟨B, R, y, rfl, e1, e2, ?_, ?_⟩
    · unfold applyL; rw [if_pos hk, ← e1, ← e2, strikeAt_cut ha]
    · rw [← e1, ← e2, findI_mid ha]

/-- All that holds of what a copy knows. -/
structure Inv (S : CS) : Prop where
  good : Good S
  ops : OpsOk S
  wo : WtOk S
  len : (S.L.length : Int) ≤ sumcl S
  lops : (S.ops.length : Int) ≤ sumcl S
  apart : Apart S.L

theorem behind_len (e : El) : ∀ R : List El, (behind e R).length = R.length + 1
  | [] => rfl
  | y :: R => by unfold behind; split <;> simp [behind_len e R]

theorem behind_mem {e z : El} : ∀ {R : List El}, z ∈ behind e R ↔ z = e ∨ z ∈ R
  | [] => by simp [behind]
  | y :: R => by
    unfold behind
    split
    · rw [List.mem_cons, behind_mem, List.mem_cons]
      constructor
      · rintro (h | h | h) <;> simp [h]
      · rintro (h | h | h) <;> simp [h]
    · simp

theorem behind_apart {e : El} : ∀ {R : List El}, Apart R → (∀ y ∈ R, ¬ (y.c = e.c ∧ y.k = e.k)) → Apart (behind e R)
  | [], _, _ => by simp [behind, Apart]
  | y :: R, h, hf => by
    obtain ⟨h1, h2⟩ := List.pairwise_cons.1 h
    unfold behind
    split
    · refine List.pairwise_cons.2 ⟨fun z hz => ?_, behind_apart h2 (fun y hy => hf y (by simp [hy]))⟩
      rcases behind_mem.1 hz with rfl | hz
      · exact hf y (by simp)
      · exact h1 z hz
    · exact List.pairwise_cons.2 ⟨fun z hz q => hf z hz ⟨q.1.symm, q.2.symm⟩, h⟩

theorem apart_ins {A R : List El} {e : El} (h : Apart (A ++ R)) (hf : ∀ y ∈ A ++ R, ¬ (y.c = e.c ∧ y.k = e.k)) : Apart (A ++ behind e R) := by
  obtain ⟨h1, h2, h3⟩ := List.pairwise_append.1 h
  refine List.pairwise_append.2 ⟨h1, behind_apart h2 (fun y hy => hf y (by simp [hy])), fun a ha z hz => ?_⟩
  rcases behind_mem.1 hz with rfl | hz
  · exact hf a (by simp [ha])
  · exact h3 a ha z hz

theorem apart_gone {A R : List El} {y : El} (h : Apart (A ++ y :: R)) : Apart (A ++ gone y :: R) := by
  obtain ⟨h1, h2, h3⟩ := List.pairwise_append.1 h
  obtain ⟨h4, h5⟩ := List.pairwise_cons.1 h2
  refine List.pairwise_append.2 ⟨h1, List.pairwise_cons.2 ⟨h4, h5⟩, fun a ha z hz => ?_⟩
  rcases List.mem_cons.1 hz with rfl | hz
  · exact h3 a ha y (by simp)
  · exact h3 a ha z (by simp [hz])

/-- The line behind an operation that is ready. -/
structure LineOk (S : CS) (x : OpR) (L' : List El) : Prop where
  len : L'.length ≤ S.L.length + 1
  mem : ∀ z ∈ L', (0 < z.c ∧ z.c ≤ max S.g x.c) ∧ (1 ≤ z.k ∧ z.k ≤ S.n)
  apart : Apart L'

theorem line_apply {S : CS} (h : Inv S) {x : OpR} (h8 : Ok8 S.n x) (hr : RdyS S x) : LineOk S x (applyL x S.L) := by
  have h0 : ∀ y ∈ S.L, 0 < y.c := fun y hy => (h.good.mark y hy).1
  have ho := h8.o
  have hc := h8.c
  rcases (show x.kind = 0 ∨ x.kind = 1 by have := h8.kind; omega) with hk | hk
  · obtain ⟨A, R, hs, hL, -, -, e, -⟩ := cut_ins h8 hk hr.2.2.1 h0 h.apart
    have hf : ∀ y ∈ A ++ R, ¬ (y.c = (x.el hs).c ∧ y.k = (x.el hs).k) := by
      rw [← hL]
      rcases hr.2.2.2 with q | q
      · omega
      · exact (hasM_false.1 q).2
    rw [e]
    refine ⟨by rw [hL]; simp [behind_len]; omega, fun z hz => ?_, apart_ins (by rw [← hL]; exact h.apart) hf⟩
    rcases List.mem_append.1 hz with hz | hz
    · have hm : z ∈ S.L := by rw [hL]; simp [hz]
      have := h.good.mark z hm
      exact ⟨by omega, h.ops.mkk z hm⟩
    · rcases behind_mem.1 hz with rfl | hz
      · show (0 < x.c ∧ x.c ≤ _) ∧ (1 ≤ x.o ∧ x.o ≤ _)
        omega
      · have hm : z ∈ S.L := by rw [hL]; simp [hz]
        have := h.good.mark z hm
        exact ⟨by omega, h.ops.mkk z hm⟩
  · obtain ⟨A, R, y, hL, -, -, e, -⟩ := cut_del h8 hk hr.2.2.1 h.apart
    rw [e]
    refine ⟨by rw [hL]; simp, fun z hz => ?_, apart_gone (by rw [← hL]; exact h.apart)⟩
    have hm : ∃ z' ∈ S.L, z'.c = z.c ∧ z'.k = z.k := by
      rw [hL]
      rcases List.mem_append.1 hz with hz | hz
      · exact ⟨z, by simp [hz], rfl, rfl⟩
      · rcases List.mem_cons.1 hz with rfl | hz
        · exact ⟨y, by simp, rfl, rfl⟩
        · exact ⟨z, by simp [hz], rfl, rfl⟩
    obtain ⟨z', hz', e1, e2⟩ := hm
    have := h.good.mark z' hz'
    have := h.ops.mkk z' hz'
    rw [e1, e2] at *
    omega

theorem inv_apply {S : CS} (h : Inv S) {x : OpR} (h8 : Ok8 S.n x) (hr : RdyS S x) : Inv (applyS S x) := by
  have hl := line_apply h h8 hr
  have ho := h8.o
  have hn8 := h.good.n8
  have hc := h8.c
  have hnum := h8.num
  have hi : x.o.toNat - 1 < S.n := by omega
  have hcl := h.good.cl (x.o.toNat - 1) (by omega)
  have hsum : sumcl (applyS S x) = sumcl S + 1 := sum_bump S (max S.g x.c) (applyL x S.L) (x.o.toNat - 1) (by omega)
  have hlen := h.len
  have hlops := h.lops
  have h800 := sum_le h.good
  refine ⟨⟨h.good.s1, h.good.sn, h.good.n8, ?_, ?_, ?_, ?_, ?_⟩, ⟨?_, ?_, ?_, fun z hz => (hl.mem z hz).2⟩, ⟨h.wo.ok, h.wo.one, h.wo.len⟩, ?_, ?_, hl.apart⟩
  · have := h.good.g0; show 0 ≤ max S.g x.c; omega
  · have := h.good.g1; show max S.g x.c ≤ _; omega
  · intro i hi
    show 0 ≤ bump S.cl (x.o.toNat - 1) i ∧ bump S.cl (x.o.toNat - 1) i ≤ 100
    have h2 := h.good.cl i hi
    have h1 := hr.1
    by_cases q : i = x.o.toNat - 1
    · subst q; rw [bump_same]; omega
    · rw [bump_other _ q]; exact h2
  · show (vis (applyL x S.L)).length ≤ _
    have h1 : (vis (applyL x S.L)).length ≤ (applyL x S.L).length := List.length_filter_le _ _
    have h2 := hl.len
    omega
  · exact fun z hz => (hl.mem z hz).1
  · intro y hy
    show OpOk S.n y ∧ y.num ≤ bump S.cl (x.o.toNat - 1) (y.o.toNat - 1)
    rcases List.mem_cons.1 hy with rfl | hy
    · exact ⟨h8.ok hn8, by rw [bump_same]; have := hr.1; omega⟩
    · have h1 := h.ops.ok y hy
      refine ⟨h1.1, Int.le_trans h1.2 ?_⟩
      by_cases q : y.o.toNat - 1 = x.o.toNat - 1
      · rw [q, bump_same]; omega
      · rw [bump_other _ q]; exact Int.le_refl _
  · intro i hi' k h1 h2
    have h2' : k ≤ bump S.cl (x.o.toNat - 1) i := h2
    show ∃ y ∈ x :: S.ops, _
    by_cases q : i = x.o.toNat - 1
    · subst q
      rw [bump_same] at h2'
      by_cases e : k = S.cl (x.o.toNat - 1) + 1
      · exact ⟨x, by simp, by omega, by rw [hr.1, e]⟩
      · obtain ⟨y, hy, e1, e2⟩ := h.ops.all (x.o.toNat - 1) hi k h1 (by omega)
        exact ⟨y, by simp [hy], e1, e2⟩
    · rw [bump_other _ q] at h2'
      obtain ⟨y, hy, e1, e2⟩ := h.ops.all i hi' k h1 h2'
      exact ⟨y, by simp [hy], e1, e2⟩
  · refine List.pairwise_cons.2 ⟨fun y hy q => ?_, h.ops.one⟩
    have h1 := (h.ops.ok y hy).2
    rw [← q.1, ← q.2, hr.1] at h1
    omega
  · show ((applyL x S.L).length : Int) ≤ sumcl (applyS S x)
    have := hl.len; omega
  · show ((x :: S.ops).length : Int) ≤ sumcl (applyS S x)
    rw [List.length_cons]; omega

end Go.Proofs.YtachmkhbbbmioaaGreat

namespace Go.Proofs.YtachmkhbbbmioaaGreat
open Go.RowKit Go.Shelf

/-- The first of those that wait and are ready. -/
def IsNext (S : CS) (y : OpR) : Prop := y ∈ S.wt ∧ RdyS S y ∧ ∀ z ∈ S.wt, RdyS S z → y.o ≤ z.o
def NoNext (S : CS) : Prop := ∀ z ∈ S.wt, ¬ RdyS S z

theorem one_name {wt : List OpR} (h : wt.Pairwise (fun x y => ¬ (x.o = y.o ∧ x.num = y.num))) {x y : OpR} (hx : x ∈ wt) (hy : y ∈ wt) (e : x.o = y.o ∧ x.num = y.num) : x = y := by
  induction wt with
  | nil => cases hx
  | cons a l ih =>
    obtain ⟨h1, h2⟩ := List.pairwise_cons.1 h
    rcases List.mem_cons.1 hx with e1 | hx'
    · rcases List.mem_cons.1 hy with e2 | hy'
      · rw [e1, e2]
      · rw [e1] at e; exact (h1 y hy' e).elim
    · rcases List.mem_cons.1 hy with e2 | hy'
      · rw [e2] at e; exact (h1 x hx' ⟨e.1.symm, e.2.symm⟩).elim
      · exact ih h2 hx' hy'

theorem next_one {S : CS} (h : WtOk S) {x y : OpR} (hx : IsNext S x) (hy : IsNext S y) : x = y := by
  have e : x.o = y.o := Int.le_antisymm (hx.2.2 y hy.1 hy.2.1) (hy.2.2 x hx.1 hx.2.1)
  exact one_name h.one hx.1 hy.1 ⟨e, by rw [hx.2.1.1, hy.2.1.1, e]⟩

open Classical in
noncomputable def nextS (S : CS) : Option OpR := if h : ∃ y, IsNext S y then some h.choose else none

theorem nextS_some {S : CS} (h : WtOk S) {y : OpR} (hy : IsNext S y) : nextS S = some y := by
  unfold nextS
  rw [dif_pos ⟨y, hy⟩]
  exact congrArg some (next_one h (Exists.choose_spec ⟨y, hy⟩) hy)

theorem nextS_none {S : CS} (hn : NoNext S) : nextS S = none := by
  unfold nextS
  rw [dif_neg]
  rintro ⟨y, hy⟩
  exact hn y hy.1 hy.2.1

theorem nextS_is {S : CS} {y : OpR} (h : nextS S = some y) : IsNext S y := by
  unfold nextS at h
  split at h
  · rename_i hx
    cases h
    exact hx.choose_spec
  · cases h

def remW (x : OpR) (wt : List OpR) : List OpR := wt.filter (fun y => !(y.o == x.o && y.num == x.num))
def remS (S : CS) (x : OpR) : CS := { S with wt := remW x S.wt }

theorem remW_out {x : OpR} {wt : List OpR} (h : ∀ y ∈ wt, ¬ (x.o = y.o ∧ x.num = y.num)) : remW x wt = wt := by
  unfold remW
  apply List.filter_eq_self.2
  intro y hy
  have := h y hy
  simp only [Bool.not_eq_true', Bool.and_eq_false_iff, beq_eq_false_iff_ne]
  by_cases q : y.o = x.o
  · exact .inr (fun q2 => this ⟨q.symm, q2.symm⟩)
  · exact .inl q

theorem remW_cut {A B : List OpR} {x : OpR} (h : (A ++ x :: B).Pairwise (fun x y => ¬ (x.o = y.o ∧ x.num = y.num))) : remW x (A ++ x :: B) = A ++ B := by
  obtain ⟨h1, h2, h3⟩ := List.pairwise_append.1 h
  obtain ⟨h4, h5⟩ := List.pairwise_cons.1 h2
  have e1 : remW x A = A := remW_out (fun y hy q => h3 y hy x (by simp) ⟨q.1.symm, q.2.symm⟩)
  have e2 : remW x B = B := remW_out h4
  unfold remW at e1 e2 ⊢
  rw [List.filter_append, e1, List.filter_cons, if_neg (by simp), e2]

theorem rem_len {S : CS} (h : WtOk S) {x : OpR} (hx : x ∈ S.wt) : (remW x S.wt).length + 1 = S.wt.length := by
  obtain ⟨A, B, e⟩ := List.append_of_mem hx
  have h1 := h.one
  rw [e] at h1 ⊢
  rw [remW_cut h1]
  simp
  omega

theorem inv_rem {S : CS} (h : Inv S) (x : OpR) : Inv (remS S x) := by
  have hw : WtOk (remS S x) := ⟨fun y hy => h.wo.ok y (List.mem_filter.1 hy).1, h.wo.one.filter _, Nat.le_trans (List.length_filter_le _ _) h.wo.len⟩
  exact ⟨⟨h.good.s1, h.good.sn, h.good.n8, h.good.g0, h.good.g1, h.good.cl, h.good.len, h.good.mark⟩, ⟨h.ops.ok, h.ops.all, h.ops.one, h.ops.mkk⟩, hw, h.len, h.lops, h.apart⟩

/-- What waits is applied, as long as something of it is ready. -/
noncomputable def drainS : Nat → CS → CS
  | 0, S => S
  | f + 1, S => match nextS S with
    | none => S
    | some x => drainS f (applyS (remS S x) x)

theorem drain_stop {S : CS} (h : NoNext S) : ∀ f, drainS f S = S
  | 0 => rfl
  | f + 1 => by unfold drainS; rw [nextS_none h]

theorem drain_step {S : CS} (h : WtOk S) {x : OpR} (hx : IsNext S x) : drainS S.wt.length S = drainS (applyS (remS S x) x).wt.length (applyS (remS S x) x) := by
  have e : S.wt.length = (applyS (remS S x) x).wt.length + 1 := (rem_len h hx.1).symm
  rw [e]
  conv => lhs; unfold drainS
  rw [nextS_some h hx]

theorem inv_step {S : CS} (h : Inv S) {x : OpR} (hx : IsNext S x) : Inv (applyS (remS S x) x) := inv_apply (inv_rem h x) (h.wo.ok x hx.1) hx.2.1

theorem inv_drain : ∀ (f : Nat) {S : CS}, Inv S → Inv (drainS f S)
  | 0, S, h => h
  | f + 1, S, h => by
    unfold drainS
    cases hn : nextS S with
    | none => exact h
    | some x => exact inv_drain f (inv_step h (nextS_is hn))

theorem drain_n : ∀ (f : Nat) (S : CS), (drainS f S).n = S.n ∧ (drainS f S).s = S.s
  | 0, S => ⟨rfl, rfl⟩
  | f + 1, S => by
    unfold drainS
    cases hn : nextS S with
    | none => exact ⟨rfl, rfl⟩
    | some x => exact drain_n f _

def knownS (S : CS) (x : OpR) : Prop := (∃ y ∈ S.wt, y.o = x.o ∧ y.num = x.num) ∨ x.num ≤ S.cl (x.o.toNat - 1)

def waitS (S : CS) (x : OpR) : CS := { S with wt := S.wt ++ [x] }

open Classical in
/-- P10: an operation that is told. -/
noncomputable def takesS (S : CS) (x : OpR) : CS :=
  if knownS S x then S else if RdyS S x then drainS S.wt.length (applyS S x) else if S.wt.length < 16 then waitS S x else S

theorem inv_wait {S : CS} (h : Inv S) {x : OpR} (h8 : Ok8 S.n x) (hk : ¬ knownS S x) (hl : S.wt.length < 16) : Inv (waitS S x) := by
  have hw : WtOk (waitS S x) := by
    refine ⟨fun y hy => ?_, ?_, ?_⟩
    · rcases List.mem_append.1 hy with hy | hy
      · exact h.wo.ok y hy
      · rw [List.mem_singleton.1 hy]; exact h8
    · refine List.pairwise_append.2 ⟨h.wo.one, List.pairwise_singleton _ _, fun a ha b hb q => ?_⟩
      rw [List.mem_singleton.1 hb] at q
      exact hk (.inl ⟨a, ha, q⟩)
    · show (S.wt ++ [x]).length ≤ 16
      simp; omega
  exact ⟨⟨h.good.s1, h.good.sn, h.good.n8, h.good.g0, h.good.g1, h.good.cl, h.good.len, h.good.mark⟩, ⟨h.ops.ok, h.ops.all, h.ops.one, h.ops.mkk⟩, hw, h.len, h.lops, h.apart⟩

theorem inv_takes {S : CS} (h : Inv S) {x : OpR} (h8 : Ok8 S.n x) : Inv (takesS S x) := by
  unfold takesS
  split
  · exact h
  · rename_i hk
    split
    · rename_i hr; exact inv_drain _ (inv_apply h h8 hr)
    · split
      · rename_i hl; exact inv_wait h h8 hk hl
      · exact h

theorem takes_n (S : CS) (x : OpR) : (takesS S x).n = S.n ∧ (takesS S x).s = S.s := by
  unfold takesS
  split
  · exact ⟨rfl, rfl⟩
  · split
    · exact drain_n _ _
    · split <;> exact ⟨rfl, rfl⟩

noncomputable def takesAll (S : CS) (l : List OpR) : CS := l.foldl takesS S

theorem takesAll_take (S : CS) (l : List OpR) (i : Nat) {x : OpR} (h : l[i]? = some x) : takesAll S (l.take (i + 1)) = takesS (takesAll S (l.take i)) x := by
  unfold takesAll
  rw [List.take_add_one, h, List.foldl_append]; rfl

theorem takesAll_n (S : CS) : ∀ l : List OpR, (takesAll S l).n = S.n ∧ (takesAll S l).s = S.s := by
  intro l
  induction l generalizing S with
  | nil => exact ⟨rfl, rfl⟩
  | cons x l ih =>
    have h1 := ih (takesS S x)
    have h2 := takes_n S x
    exact ⟨h1.1.trans h2.1, h1.2.trans h2.2⟩

theorem inv_takesAll : ∀ (l : List OpR) {S : CS}, Inv S → (∀ x ∈ l, Ok8 S.n x) → Inv (takesAll S l)
  | [], S, h, _ => h
  | x :: l, S, h, hl => inv_takesAll l (inv_takes h (hl x (by simp))) (fun y hy => by rw [(takes_n S x).1]; exact hl y (by simp [hy]))

end Go.Proofs.YtachmkhbbbmioaaGreat

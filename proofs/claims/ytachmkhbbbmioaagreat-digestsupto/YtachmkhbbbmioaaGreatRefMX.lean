import Derived.Test.YtachmkhbbbmioaaGreatRefYX
import Derived.Test.YtachmkhbbbmioaaGreatStByX
import Derived.Test.YtachmkhbbbmioaaGreatBadX
namespace Go.Proofs.YtachmkhbbbmioaaGreat
open Go.RowKit Go.Shelf

theorem ckRowQ_int (n : Nat) (q : Nat → Int) : ckRowQ n q = intRow (clk n q) := by simp [ckRowQ, intRow, clk]

/-- One operation more in a list. -/
theorem ops_more {n : Nat} {v v' vk : Value} {rows : List (List Value)} {l : List OpR} {x : OpR} {w w' : World} (hR : RowAt 88 8 v rows w) (hl : rows.length = l.length) (hx : ∀ (j : Nat) (y : OpR), l[j]? = some y → ∃ vk, rows[j]? = some (opCells y vk) ∧ RowAt 3 1 vk (intRow (clk n y.q)) w)
    (hv : RowAt 88 8 v' (rows ++ [opCells x vk]) w') (hg : w.grownBy w' v.ownBlock) (hk : RowAt 3 1 vk (intRow (clk n x.q)) w) : OpsRow n v' (l ++ [x]) w' := by
  have keep : ∀ (u : Value) (xs : List (List Value)), RowAt 3 1 u xs w → RowAt 3 1 u xs w' := fun u xs hu => hu.kept (fun g hg2 => hg.block g (hu.lt hg2) (fun q => hR.ne hu (by decide) q.symm hg2))
  refine ⟨rows ++ [opCells x vk], hv, by simp [hl], fun j y hj => ?_⟩
  rw [List.getElem?_append] at hj
  split at hj
  · rename_i hlt
    obtain ⟨vk', a, b⟩ := hx j y hj
    exact ⟨vk', by rw [List.getElem?_append_left (by omega)]; exact a, keep _ _ b⟩
  · rename_i hlt
    have e0 : j = l.length ∧ y = x := by
      rcases Nat.eq_zero_or_pos (j - l.length) with e | e
      · rw [e] at hj; exact ⟨by omega, by simpa using hj.symm⟩
      · rw [List.getElem?_eq_none (by show 1 ≤ _; omega)] at hj; cases hj
    obtain ⟨rfl, rfl⟩ := e0
    exact ⟨vk, by rw [← hl]; simp, keep _ _ hk⟩

def isName (i : Nat) (k : Int) (x : OpR) : Bool := x.o == (i : Int) + 1 && x.num == k
theorem filter_take (i : Nat) (k : Int) (l : List OpR) (j : Nat) (x : OpR) (h : l[j]? = some x) : (l.take (j + 1)).filter (isName i k) = (l.take j).filter (isName i k) ++ (if isName i k x then [x] else []) := by
  rw [List.take_add_one, h, List.filter_append]
  simp [List.filter_cons]

theorem opCells_len (x : OpR) (vk : Value) : ∀ y ∈ [opCells x vk], y.length = 8 := by
  intro y hy
  simp at hy
  subst hy
  rfl

set_option maxRecDepth 100000 in
set_option maxHeartbeats 8000000 in
theorem missingR (yb : Nat) (S : CS) (hG : Good S) (ho : OpsOk S) (vc vl vw vL : Value) (log wt : List (List Value)) (ks : List Nat) (q : Nat → Int) (hq : ∀ i, i < S.n → 0 ≤ q i ∧ q i ≤ 100) (v : Value) (w : World) (h : RefAt yb S vc vl vw vL log wt w) (hlg : LogAt S.n ks log S.ops w) (hlog : log.length ≤ 1000) (hv : RowAt 3 1 v (intRow (clk S.n q)) w) :
    Calls Tryz.prog 71 #[.pointer (some ⟨yb, 0, none⟩), v] w fun e w' => ∃ v', e = .returned v' ∧ OpsRow S.n v' (miss S q) w' ∧ w.grownBy w' none ∧ (∀ g, v'.ownBlock = some g → w.heap.size ≤ g) := by
  have h8 := hG.n8
  have hs1 := hG.s1
  have hsn := hG.sn
  have hml := missTo_len hG ho q (fun i hi => (hq i hi).1)
  obtain ⟨gq, cq, curq, rfl, -, hbq, -⟩ := hv.cell (i := 0) (intRow_at (clk_at q (show 0 < S.n by omega)))
  rw [intRow_len, clk_len] at hv ⊢
  obtain ⟨gc, cc, curc, rfl, -, hbc, -⟩ := h.clock (i := 0) (by omega)
  obtain ⟨al, cl0, rfl, -⟩ := h.lg.value
  have hll := hlg.len
  have HC : Hid (∀ W, w.grownBy W none → W.cell? ⟨yb, 0, none⟩ = some (.int .i64 S.n) ∧ W.cell? ⟨yb, 2, none⟩ = some (.slice (some ⟨gc, 0, none⟩) S.n cc) ∧ W.cell? ⟨yb, 4, none⟩ = some (.slice al log.length cl0)) := by
    intro W hW
    exact ⟨cell_of_grown (cell_blk h.cp 0) hW, cell_of_grown (cell_blk h.cp 2) hW, cell_of_grown (cell_blk h.cp 4) hW⟩
  have HQ : Hid (∀ W, w.grownBy W none → ∀ i, i < S.n → W.cell? ⟨gq, i, none⟩ = some (.int .i64 (q i)) ∧ W.cell? ⟨gc, i, none⟩ = some (.int .i64 (S.cl i))) := by
    intro W hW i hi
    refine ⟨?_, ?_⟩
    · obtain ⟨g', c', cur', e, -, hb, hx⟩ := (hv.grown hW).cell (intRow_at (clk_at q hi))
      rw [intRow_len, clk_len] at e
      cases e
      rw [cell_blk hb]
      simpa using hx 0 _ rfl
    · obtain ⟨g', c', cur', e, -, hb, hx⟩ := (h.grown hW).clock hi
      cases e
      rw [cell_blk hb]; exact hx
  go_enter Tryz.func71, Tryz.ntmps71
  go_wp2_with fail
  go_loopg [5, 6] S.n (fun gk s5 s6 wr => ∃ (i : Nat), s6 = .int .i64 ((i : Int) + 1) ∧ i ≤ S.n ∧ gk = S.n - i ∧ OpsRow S.n s5 (missTo S q i) wr ∧ w.grownBy wr none ∧ (∀ g, s5.ownBlock = some g → w.heap.size ≤ g))
  case atStart => exact ⟨0, rfl, by omega, rfl, ⟨[], row_nil _ _ _, rfl, by simp [missTo]⟩, grown_refl _, by simp [Value.ownBlock]⟩
  case round =>
    obtain ⟨i, rfl, hil, hgk0, hR, hg, hO⟩ := hrel
    obtain ⟨c0, -, -⟩ := HC.out wr hg
    by_cases hlt : i < S.n
    · have hli : (i : Int) + 1 ≤ (S.n : Int) := by omega
      have hli2 : (i : Int) < (S.n : Int) := by omega
      have hqi := hq i hlt
      have hci := hG.cl i (by omega)
      obtain ⟨q1, -⟩ := HQ.out wr hg i hlt
      have hw1 : IntKind.i64.wrap (q i + 1) = q i + 1 := by rw [IntKind.wrap_i64]; omega
      have hwi : IntKind.i64.wrap ((i : Int) + 1 - 1) = (i : Int) := by rw [IntKind.wrap_i64]; omega
      have hi0 : (0 : Int) ≤ (i : Int) := by omega
      have hmi := hml i hil
      obtain ⟨T, hT⟩ : ∃ T, missTo S q i = T := ⟨_, rfl⟩
      have HT := hide hT
      rw [hT] at hR hmi
      clear hT
      go_wp2_with fail
      clear c0 q1
      go_loopg [5, 7] (S.cl i - q i).toNat (fun gk s5 s7 wr => ∃ (m : Nat), s7 = .int .i64 (q i + 1 + (m : Int)) ∧ m ≤ (S.cl i - q i).toNat ∧ gk = (S.cl i - q i).toNat - m ∧ OpsRow S.n s5 (T ++ missO S q i m) wr ∧ w.grownBy wr none ∧ (∀ g, s5.ownBlock = some g → w.heap.size ≤ g))
      case atStart => exact ⟨0, by simp, by omega, rfl, by simpa [missO] using hR, hg, hO⟩
      case round =>
        clear hR hg hO
        obtain ⟨m, rfl, hml0, hgk1, hR, hg, hO⟩ := hrel
        obtain ⟨-, c2, c4⟩ := HC.out wr hg
        obtain ⟨-, q2⟩ := HQ.out wr hg i hlt
        by_cases hmt : m < (S.cl i - q i).toNat
        · have hle : q i + 1 + (m : Int) ≤ S.cl i := by omega
          obtain ⟨x0, hx0, e1, -⟩ := ho.at hlt (k := q i + 1 + (m : Int)) (by omega) hle
          have hml2 := missO_len ho hlt q hqi.1 m (by omega)
          have hfin : S.ops.reverse.filter (isName i (q i + 1 + (m : Int))) = ofName S.ops i (q i + 1 + (m : Int)) := by
            rw [List.filter_reverse, show S.ops.filter (isName i (q i + 1 + (m : Int))) = ofName S.ops i (q i + 1 + (m : Int)) from rfl, e1]; rfl
          have HFI := hide hfin
          have HE1 := hide e1
          obtain ⟨U, hU⟩ : ∃ U, T ++ missO S q i m = U := ⟨_, rfl⟩
          have HU := hide hU
          have hUl : U.length ≤ 900 := by rw [← hU, List.length_append, hml2]; omega
          rw [hU] at hR
          have hw2 : IntKind.i64.wrap (q i + 1 + (m : Int) + 1) = q i + 1 + ((m + 1 : Nat) : Int) := by rw [IntKind.wrap_i64]; omega
          clear hfin e1 hx0 hU hml2
          go_wp2_with fail
          clear c2 c4 q2
          go_loopg [5, 8] log.length (fun gk s5 s8 wr => ∃ (j : Nat), s8 = .int .i64 j ∧ j ≤ log.length ∧ gk = log.length - j ∧ OpsRow S.n s5 (U ++ (S.ops.reverse.take j).filter (isName i (q i + 1 + (m : Int)))) wr ∧ w.grownBy wr none ∧ (∀ g, s5.ownBlock = some g → w.heap.size ≤ g))
          case atStart => exact ⟨0, rfl, by omega, rfl, by simpa using hR, hg, hO⟩
          case round =>
            clear hR hg hO
            obtain ⟨j, rfl, hjl, hgk, hR, hg, hO⟩ := hrel
            obtain ⟨-, c2, c4⟩ := HC.out wr hg
            by_cases hjt : j < log.length
            · have hji : (j : Int) < (log.length : Int) := by omega
              have hjo : j < S.ops.reverse.length := by rw [List.length_reverse, ← hll]; exact hjt
              obtain ⟨x, hx⟩ : ∃ x, S.ops.reverse[j]? = some x := ⟨_, List.getElem?_eq_getElem hjo⟩
              obtain ⟨vk, hrow, hclk, -⟩ := hlg.row j x hx
              obtain ⟨gr, cr, cur, hvr, -, hbr, hcr⟩ := (h.lg.grown hg).cell hrow
              cases hvr
              have r0 : wr.cell? ⟨gr, j * 8, none⟩ = some (.int .i64 x.o) := (cell_blk hbr _).trans (hcr 0 _ rfl)
              have r1 : wr.cell? ⟨gr, j * 8 + 1, none⟩ = some (.int .i64 x.num) := (cell_blk hbr _).trans (hcr 1 _ rfl)
              have hft := filter_take i (q i + 1 + (m : Int)) S.ops.reverse j x hx
              have HFT := hide hft
              clear hft
              by_cases hn1 : x.o = (i : Int) + 1
              · have b1 : (x.o == (i : Int) + 1) = true := by simp [hn1]
                by_cases hn2 : x.num = q i + 1 + (m : Int)
                · have b2 : (x.num == q i + 1 + (m : Int)) = true := by simp [hn2]
                  have hIN : isName i (q i + 1 + (m : Int)) x = true := by simp [isName, hn1, hn2]
                  have HIN := hide hIN
                  have r2 : wr.cell? ⟨gr, j * 8 + 2, none⟩ = some (.int .i64 x.c) := (cell_blk hbr _).trans (hcr 2 _ rfl)
                  have r3 : wr.cell? ⟨gr, j * 8 + 3, none⟩ = some (.int .i64 x.kind) := (cell_blk hbr _).trans (hcr 3 _ rfl)
                  have r4 : wr.cell? ⟨gr, j * 8 + 4, none⟩ = some (.int .i64 x.tc) := (cell_blk hbr _).trans (hcr 4 _ rfl)
                  have r5 : wr.cell? ⟨gr, j * 8 + 5, none⟩ = some (.int .i64 x.tk) := (cell_blk hbr _).trans (hcr 5 _ rfl)
                  have r6 : wr.cell? ⟨gr, j * 8 + 6, none⟩ = some (.int .i64 x.r) := (cell_blk hbr _).trans (hcr 6 _ rfl)
                  have r7 : wr.cell? ⟨gr, j * 8 + 7, none⟩ = some vk := (cell_blk hbr _).trans (hcr 7 _ rfl)
                  rw [ckRowQ_int] at hclk
                  have hclk2 := hclk.grown hg
                  obtain ⟨ak, ck, rfl, -⟩ := hclk.value
                  rw [intRow_len, clk_len] at r7 hclk2
                  have g3 : wr.grownBy (wr.alloc (.cells #[.int .i64 x.o, .int .i64 x.num, .int .i64 x.c, .int .i64 x.kind, .int .i64 x.tc, .int .i64 x.tk, .int .i64 x.r, .slice ak S.n ck] 88)) none := grown_alloc (grown_refl _) _
                  have hSr : SrcAt (wr.alloc (.cells #[.int .i64 x.o, .int .i64 x.num, .int .i64 x.c, .int .i64 x.kind, .int .i64 x.tc, .int .i64 x.tk, .int .i64 x.r, .slice ak S.n ck] 88)) (.slice (some ⟨wr.heap.size, 0, none⟩) 1 1) [opCells x (.slice ak S.n ck)] := src_new wr (opCells x (.slice ak S.n ck)) _
                  obtain ⟨rows, hRr, hRl, hRx⟩ := hR.grown g3
                  have hclk3 := hclk2.grown g3
                  have hG3 := grown_trans hg g3
                  have lr : rows.length ≤ 2000 := by
                    have h1 : ((S.ops.reverse.take j).filter (isName i (q i + 1 + (m : Int)))).length ≤ (S.ops.reverse.take j).length := List.length_filter_le _ _
                    have h2 : (S.ops.reverse.take j).length ≤ j := by simp; omega
                    rw [hRl, List.length_append]; omega
                  have l1 : ([opCells x (.slice ak S.n ck)] : List (List Value)).length = 1 := rfl
                  have hone : ∀ y ∈ [opCells x (.slice ak S.n ck)], ∀ c ∈ y, c.oneCell' = true := by
                    intro y hy c hc
                    simp only [List.mem_cons, List.not_mem_nil, or_false] at hy
                    subst hy
                    simp only [opCells, List.mem_cons, List.not_mem_nil, or_false] at hc
                    rcases hc with rfl | rfl | rfl | rfl | rfl | rfl | rfl | rfl <;> rfl
                  rw [hn1] at r0
                  rw [hn2] at r1
                  rw [hn1, hn2] at g3 hSr hRr hclk3 hG3
                  clear hcr hrow hbr hR hclk hclk2 hIN b1 b2 hx
                  go_wp2_with (at_builtin; refine wpList_row Tryz.underlying41 infoOp rfl (by decide) rfl _ _ rfl u5 _ rfl hRr _ _ rfl hSr (opCells_len _ _) hone (by unfold maxLen; omega) (by omega) ?_; intro v5 w5 hR5 hg5 hat)
                  go_roundg (log.length - (j + 1))
                  case measure => omega
                  case rel =>
                    refine ⟨j + 1, by go_num, by omega, rfl, ?_, ((Fr.ofGrown hG3).grown hg5 (fun k hk => .inr (hO k hk)) : Fr [] w w5).toGrown, fun g hg => ?_⟩
                    · rw [HFT.out, if_pos HIN.out, ← List.append_assoc]
                      exact ops_more hRr hRl (fun j y hj => by rw [hn1, hn2] at hRx; exact hRx j y hj) hR5 hg5 hclk3
                    · rcases hat with hat | hat
                      · exact hO g (hat ▸ hg)
                      · rw [hat] at hg; cases hg; exact hG3.size
                · have b2 : (x.num == q i + 1 + (m : Int)) = false := by simp [hn2]
                  have hIN : isName i (q i + 1 + (m : Int)) x = false := by simp [isName, hn2]
                  have HIN := hide hIN
                  clear hcr hrow hbr hIN hn2 hx
                  rw [hn1] at r0
                  clear hn1
                  go_wp2_with fail
                  go_roundg (log.length - (j + 1))
                  case measure => omega
                  case rel => exact ⟨j + 1, by go_num, by omega, rfl, by rw [HFT.out, if_neg (by rw [HIN.out]; simp), List.append_nil]; exact hR, hg, hO⟩
              · have b1 : (x.o == (i : Int) + 1) = false := by simp [hn1]
                have hIN : isName i (q i + 1 + (m : Int)) x = false := by simp [isName, hn1]
                have HIN := hide hIN
                clear hcr hrow hbr hIN hn1 hx
                go_wp2_with fail
                go_roundg (log.length - (j + 1))
                case measure => omega
                case rel => exact ⟨j + 1, by go_num, by omega, rfl, by rw [HFT.out, if_neg (by rw [HIN.out]; simp), List.append_nil]; exact hR, hg, hO⟩
            · have hje : j = log.length := by omega
              have hjf : ¬ (j : Int) < (log.length : Int) := by omega
              have HR : Hid (OpsRow S.n u5 (T ++ missO S q i (m + 1)) wr) := by
                refine hide ?_
                rw [missO_succ, ← List.append_assoc, HU.out, ← HFI.out]
                rw [hje, hll, List.take_of_length_le (by simp)] at hR
                exact hR
              clear hje hR
              go_wp2_with fail
              go_roundg ((S.cl i - q i).toNat - (m + 1))
              case measure => omega
              case rel => exact ⟨m + 1, rfl, by omega, rfl, HR.out, hg, hO⟩
        · have hle : ¬ q i + 1 + (m : Int) ≤ S.cl i := by omega
          have hje : m = (S.cl i - q i).toNat := by omega
          have HJ := hide hje
          clear hje
          go_wp2_with fail
          go_roundg (S.n - (i + 1))
          case measure => omega
          case rel => exact ⟨i + 1, by go_num, by omega, rfl, by rw [missTo_succ, HT.out, ← HJ.out]; exact hR, hg, hO⟩
    · obtain rfl : i = S.n := by omega
      have hlf : ¬ (S.n : Int) + 1 ≤ (S.n : Int) := by omega
      go_wp2_with fail
      go_ret
      exact ⟨_, rfl, hR, hg, hO⟩

end Go.Proofs.YtachmkhbbbmioaaGreat

namespace Go.Proofs.YtachmkhbbbmioaaGreat
open Go.RowKit Go.Shelf

theorem flat_ge (n : Nat) (l : List OpR) : l.length ≤ (l.flatMap (OpR.bytes n)).length := by
  induction l with
  | nil => simp
  | cons x l ih =>
    have := bytes_pos n x
    rw [List.flatMap_cons, List.length_append, List.length_cons]; omega

theorem batch_len (n : Nat) (l : List OpR) (h : l.length < 128) : (batch n l).length = (l.flatMap (OpR.bytes n)).length + 6 := by
  unfold batch
  rw [seal_len, List.length_cons, List.length_append, vb_small h]
  simp only [List.length_cons, List.length_nil]; omega

theorem op_one (x : OpR) (ak : Option Addr) (m c : Nat) : ∀ y ∈ [opCells x (.slice ak m c)], ∀ c ∈ y, c.oneCell' = true := by
  intro y hy c hc
  simp only [List.mem_cons, List.not_mem_nil, or_false] at hy
  subst hy
  simp only [opCells, List.mem_cons, List.not_mem_nil, or_false] at hc
  rcases hc with rfl | rfl | rfl | rfl | rfl | rfl | rfl | rfl <;> rfl

theorem rows_one {n : Nat} {rows : List (List Value)} {l : List OpR} {w : World} (hl : rows.length = l.length) (hx : ∀ (j : Nat) (y : OpR), l[j]? = some y → ∃ vk, rows[j]? = some (opCells y vk) ∧ RowAt 3 1 vk (intRow (clk n y.q)) w) : ∀ y ∈ rows, ∀ c ∈ y, c.oneCell' = true := by
  intro y hy c hc
  obtain ⟨j, hj, rfl⟩ := List.mem_iff_getElem.1 hy
  obtain ⟨vk, a, b⟩ := hx j (l[j]'(by omega)) (List.getElem?_eq_getElem (by omega))
  rw [List.getElem?_eq_getElem hj, Option.some.injEq] at a
  rw [a] at hc
  obtain ⟨ak, ck, rfl, -⟩ := b.value
  exact op_one (l[j]'(by omega)) ak (intRow (clk n (l[j]'(by omega)).q)).length ck _ (List.mem_singleton.2 rfl) c hc

theorem ops_new {n : Nat} {x : OpR} {vk : Value} {w : World} (hk : RowAt 3 1 vk (intRow (clk n x.q)) w) : OpsRow n (.slice (some ⟨w.heap.size, 0, none⟩) 1 1) [x] (w.alloc (.cells #[.int .i64 x.o, .int .i64 x.num, .int .i64 x.c, .int .i64 x.kind, .int .i64 x.tc, .int .i64 x.tk, .int .i64 x.r, vk] 88)) := by
  refine ⟨[opCells x vk], ⟨⟨rfl, .inr ⟨_, _, _, rfl, Nat.zero_le _, heap_alloc_new _ _, Nat.le_refl _, by unfold maxLen; omega, rfl, rfl⟩⟩, opCells_len x vk⟩, rfl, fun j y hj => ?_⟩
  match j, hj with
  | 0, hj =>
    simp at hj
    subst hj
    exact ⟨vk, rfl, hk.grown (grown_alloc (grown_refl _) _)⟩
  | j + 1, hj => simp at hj

set_option maxRecDepth 100000 in
set_option maxHeartbeats 8000000 in
theorem batchesR (n : Nat) (h8 : n ≤ 8) (l : List OpR) (hl : l.length ≤ 1000) (hok : ∀ x ∈ l, OpOk n x) (v : Value) (w : World) (hv : OpsRow n v l w) :
    Calls Tryz.prog 70 #[v] w fun e w' => ∃ v', e = .returned v' ∧ RowAt 9 1 v' (strRow (answers n l)) w' ∧ w.grownBy w' none ∧ (∀ g, v'.ownBlock = some g → w.heap.size ≤ g) := by
  obtain ⟨rows, hR, hRl, hRx⟩ := hv
  obtain ⟨av, cv, rfl, -⟩ := hR.value
  rw [hRl] at hR ⊢
  go_enter Tryz.func70, Tryz.ntmps70
  go_wp2_with fail
  go_loopg [3, 4, 5] l.length (fun gk s3 s4 s5 wr => ∃ (i : Nat) (out : List (List UInt8)) (sm : List OpR), s5 = .int .i64 i ∧ i ≤ l.length ∧ gk = l.length - i ∧ sm.length ≤ i ∧ (∀ x ∈ sm, OpOk n x) ∧ (sm.length ≤ 1 ∨ (sm.flatMap (OpR.bytes n)).length ≤ 114) ∧ out.length ≤ i ∧
    Hid (out ++ (packs n sm (l.drop i)).map (batch n) = answers n l) ∧ RowAt 9 1 s3 (strRow out) wr ∧ OpsRow n s4 sm wr ∧ w.grownBy wr none ∧ (∀ g, s3.ownBlock = some g → w.heap.size ≤ g))
  case atStart => exact ⟨0, [], [], rfl, by omega, rfl, by simp, by simp, by simp, by simp, hide (by simp [answers]), row_nil _ _ _, ⟨[], row_nil _ _ _, rfl, by simp⟩, grown_refl _, by simp [Value.ownBlock]⟩
  case round =>
    obtain ⟨i, out, sm, rfl, hil, hgk, hsl, hso, hsf, hol, hP, hR3, hR4, hG, hO3⟩ := hrel
    by_cases hlt : i < l.length
    · have hli : (i : Int) < (l.length : Int) := by omega
      obtain ⟨x, hx⟩ : ∃ x, l[i]? = some x := ⟨l[i], by simp [hlt]⟩
      have hxo := hok x (List.mem_of_getElem? hx)
      have hfg := flat_ge n sm
      have hfl := flat_len_op h8 sm hso
      have hbl := bytes_len h8 hxo
      have hs115 : sm.length ≤ 114 := by omega
      have hBW := fun (vo : Value) (w' : World) (hw : OpsRow n vo (sm ++ [x]) w') => writeBatR n h8 (sm ++ [x]) (by simp; omega) (by intro y hy; rcases List.mem_append.1 hy with hy | hy; exact hso y hy; simp at hy; subst hy; exact hxo) (.slice none 0 0) vo w' hw
      have hBS := fun (vo : Value) (w' : World) (hw : OpsRow n vo sm w') => writeBatR n h8 sm (by omega) hso (.slice none 0 0) vo w' hw
      have hlenB : (batch n (sm ++ [x])).length = (sm.flatMap (OpR.bytes n)).length + (x.bytes n).length + 6 := by
        rw [batch_len n _ (by simp; omega)]
        simp
      have hdr := drop_at hx
      have HPK : Hid (out ++ (packs n sm (x :: l.drop (i + 1))).map (batch n) = answers n l) := by rw [← hdr]; exact hP
      clear hdr hP
      obtain ⟨fl, hfl0⟩ : ∃ fl, (sm.flatMap (OpR.bytes n)).length = fl := ⟨_, rfl⟩
      obtain ⟨pl, hpl0⟩ : ∃ pl, (x.bytes n).length = pl := ⟨_, rfl⟩
      rw [hfl0, hpl0] at hlenB
      rw [hfl0] at hfl hfg
      rw [hpl0] at hbl
      have HFL := hide hfl0
      have HPL := hide hpl0
      have HSF := hide hsf
      obtain ⟨B1, hB1⟩ : ∃ b, batch n (sm ++ [x]) = b := ⟨_, rfl⟩
      rw [hB1] at hlenB hBW
      have HBW := hide hBW
      have HBS := hide hBS
      clear hfl0 hpl0 hB1 hBW hBS hsf
      obtain ⟨rows4, hRr4, hRl4, hRx4⟩ := hR4
      obtain ⟨a4, c4, rfl, -⟩ := hRr4.value
      rw [hRl4] at hRr4 ⊢
      have HSM : Hid (OpsRow n (.slice a4 sm.length c4) sm wr) := ⟨rows4, hRr4, hRl4, hRx4⟩
      have hs4 := hRr4.src
      have hone4 := rows_one hRl4 hRx4
      have hnil := row_nil 88 8 wr
      have l4 : rows4.length ≤ 200 := by omega
      go_upto_region 8 with (at_builtin; refine wpList_row Tryz.underlying41 infoOp rfl (by decide) rfl _ _ rfl _ _ rfl hnil _ _ rfl hs4 hRr4.2 hone4 (by unfold maxLen; simp only [List.length_nil]; omega) (by simp only [List.length_nil]; omega) ?_; intro v6 w6 hR6 hg6 hat6)
      rw [List.nil_append] at hR6
      have hg6n : wr.grownBy w6 none := hg6
      have hRx6 : ∀ (j : Nat) (y : OpR), sm[j]? = some y → ∃ vk, rows4[j]? = some (opCells y vk) ∧ RowAt 3 1 vk (intRow (clk n y.q)) w6 := fun j y hj => by obtain ⟨vk, a, b⟩ := hRx4 j y hj; exact ⟨vk, a, b.grown hg6n⟩
      have hR46 := hRr4.grown hg6n
      have HR3 := hide hR3
      have hR36 := hR3.grown hg6n
      have hG6 := grown_trans hG hg6n
      have hown6 : ∀ g, v6.ownBlock = some g → wr.heap.size ≤ g := fun g hg => by
        rcases hat6 with hat | hat
        · rw [hat] at hg; cases hg
        · rw [hat] at hg; cases hg; exact Nat.le_refl _
      clear hRr4 hs4 hone4 hnil hat6 hR3
      obtain ⟨vk, hrow, hclk⟩ := hRx i x hx
      obtain ⟨ak, ck, rfl, -⟩ := hclk.value
      rw [intRow_len, clk_len] at hrow hclk
      obtain ⟨gr, cr, cur, hvr, -, hbr, hcr⟩ := (hR.grown hG6).cell hrow
      rw [hRl] at hvr
      cases hvr
      have hclk6 := hclk.grown hG6
      have r0 : w6.cell? ⟨gr, i * 8, none⟩ = some (.int .i64 x.o) := (cell_blk hbr _).trans (hcr 0 _ rfl)
      have r1 : w6.cell? ⟨gr, i * 8 + 1, none⟩ = some (.int .i64 x.num) := (cell_blk hbr _).trans (hcr 1 _ rfl)
      have r2 : w6.cell? ⟨gr, i * 8 + 2, none⟩ = some (.int .i64 x.c) := (cell_blk hbr _).trans (hcr 2 _ rfl)
      have r3 : w6.cell? ⟨gr, i * 8 + 3, none⟩ = some (.int .i64 x.kind) := (cell_blk hbr _).trans (hcr 3 _ rfl)
      have r4 : w6.cell? ⟨gr, i * 8 + 4, none⟩ = some (.int .i64 x.tc) := (cell_blk hbr _).trans (hcr 4 _ rfl)
      have r5 : w6.cell? ⟨gr, i * 8 + 5, none⟩ = some (.int .i64 x.tk) := (cell_blk hbr _).trans (hcr 5 _ rfl)
      have r6 : w6.cell? ⟨gr, i * 8 + 6, none⟩ = some (.int .i64 x.r) := (cell_blk hbr _).trans (hcr 6 _ rfl)
      have r7 : w6.cell? ⟨gr, i * 8 + 7, none⟩ = some (.slice ak n ck) := (cell_blk hbr _).trans (hcr 7 _ rfl)
      have g7 : w6.grownBy (w6.alloc (.cells #[.int .i64 x.o, .int .i64 x.num, .int .i64 x.c, .int .i64 x.kind, .int .i64 x.tc, .int .i64 x.tk, .int .i64 x.r, .slice ak n ck] 88)) none := grown_alloc (grown_refl _) _
      have hSr : SrcAt (w6.alloc (.cells #[.int .i64 x.o, .int .i64 x.num, .int .i64 x.c, .int .i64 x.kind, .int .i64 x.tc, .int .i64 x.tk, .int .i64 x.r, .slice ak n ck] 88)) (.slice (some ⟨w6.heap.size, 0, none⟩) 1 1) [opCells x (.slice ak n ck)] := src_new w6 (opCells x (.slice ak n ck)) _
      have hR7 := hR6.grown g7
      have hRx7 : ∀ (j : Nat) (y : OpR), sm[j]? = some y → ∃ vk, rows4[j]? = some (opCells y vk) ∧ RowAt 3 1 vk (intRow (clk n y.q)) (w6.alloc (.cells #[.int .i64 x.o, .int .i64 x.num, .int .i64 x.c, .int .i64 x.kind, .int .i64 x.tc, .int .i64 x.tk, .int .i64 x.r, .slice ak n ck] 88)) := fun j y hj => by obtain ⟨vk, a, b⟩ := hRx6 j y hj; exact ⟨vk, a, b.grown g7⟩
      have hclk7 := hclk6.grown g7
      have hR47 := hR46.grown g7
      have hR37 := hR36.grown g7
      have hG7 := grown_trans hG6 g7
      have l1 : ([opCells x (.slice ak n ck)] : List (List Value)).length = 1 := rfl
      have hown67 := hown6
      have HXX := hide hx
      clear hcr hrow hbr hR6 hRx6 hR46 hR36 hx
      go_upto_region 9 with (at_builtin; refine wpList_row Tryz.underlying41 infoOp rfl (by decide) rfl _ _ rfl v6 _ rfl hR7 _ _ rfl hSr (opCells_len _ _) (op_one _ _ _ _) (by unfold maxLen; omega) (by omega) ?_; intro v8 w8 hR8 hg8 hat8)
      have hops8 := ops_more hR7 hRl4 hRx7 hR8 hg8 hclk7
      have hF8 : Fr [] wr w8 := ((Fr.ofGrown (grown_trans hg6n g7)).grown hg8 (fun k hk => .inr (hown6 k hk)))
      have hG8 := grown_trans hG hF8.toGrown
      have keep8 : ∀ (e : TypeId) (k : Nat) (u : Value) (xs : List (List Value)), RowAt e k u xs wr → RowAt e k u xs w8 := fun e k u xs hu => hu.kept (fun g hg => hF8.block g (hu.lt hg) (by simp))
      have HKEEP := hide keep8
      have HOPS := hide hops8
      obtain ⟨rows8, hRr8, hRl8, -⟩ := hops8
      obtain ⟨a8, c8, rfl, -⟩ := hRr8.value
      rw [hRl8] at HOPS ⊢
      have hopl : (sm ++ [x]).length = sm.length + 1 := by simp
      rw [hopl] at HOPS ⊢
      clear hR7 hSr hRx7 hclk7 hR47 hR37 hG7 g7 hg8 hat8 hown67 hown6 hR8 hRr8 r0 r1 r2 r3 r4 r5 r6 r7 keep8 hclk6 hg6n hg6 hRx4
      have HB1 := hide (HBW.out _ w8 HOPS.out)
      go_wp2_with fail
      refine HB1.out.mono ?_
      rintro e w9 ⟨rfl, g9⟩
      have hF9 := hF8.grown g9 (by simp)
      by_cases h114 : 114 < fl + pl
      · have hgt : (120 : Int) < (B1.length : Int) := by omega
        have HPK2 : Hid ((out ++ [batch n sm]) ++ (packs n [x] (l.drop (i + 1))).map (batch n) = answers n l) := by
          have := HPK.out
          rw [packs_cons, if_pos (by rw [HFL.out, HPL.out]; exact h114)] at this
          refine hide ?_
          rw [← this]; simp
        have HB2 := hide (HBS.out _ w9 (HSM.out.grown hF9.toGrown))
        generalize hbt : batch n sm = bt at HB2 HPK2
        clear hbt HPK HB1 HBW HBS HOPS
        go_wp2_with fail
        refine HB2.out.mono ?_
        rintro e wA ⟨rfl, gA⟩
        have gB : wA.grownBy (wA.alloc (.cells #[str bt] 9)) none := grown_alloc (grown_refl _) _
        have hSb : SrcAt (wA.alloc (.cells #[str bt] 9)) (.slice (some ⟨wA.heap.size, 0, none⟩) 1 1) (strRow [bt]) := src_new wA [str bt] _
        have hFB := (hF9.grown gA (by simp)).grown gB (by simp)
        have hR3B := HR3.out.grown hFB.toGrown
        have hGB := grown_trans hG hFB.toGrown
        have lo : (strRow out).length ≤ 1000 := by rw [strRow_len]; omega
        have lb : (strRow [bt]).length = 1 := rfl
        go_upto_region 12 with (at_builtin; refine wpList_row Tryz.underlying26 infoStr rfl (by decide) rfl _ _ rfl u3 _ rfl hR3B _ _ rfl hSb (strRow_one _) (strRow_cell _) (by unfold maxLen; omega) (by omega) ?_; intro vC wC hRC hgC hatC)
        rw [← strRow_append] at hRC
        have hFC : Fr [] w wC := (Fr.ofGrown hGB).grown hgC (fun k hk => .inr (hO3 k hk))
        have hGC := hFC.toGrown
        have hOC : ∀ g, vC.ownBlock = some g → w.heap.size ≤ g := fun g hg => by
          rcases hatC with hat | hat
          · exact hO3 g (hat ▸ hg)
          · rw [hat] at hg; cases hg; exact hGB.size
        clear hR3B hSb gB hgC hatC HR3
        obtain ⟨vk2, hrow2, hclk2⟩ := hRx i x HXX.out
        obtain ⟨gr2, cr2, cur2, hvr2, -, hbr2, hcr2⟩ := (hR.grown hGC).cell hrow2
        rw [hRl] at hvr2
        cases hvr2
        obtain ⟨ak, ck, rfl, -⟩ := hclk2.value
        rw [intRow_len, clk_len] at hrow2 hclk2 hcr2
        have r0 : wC.cell? ⟨gr, i * 8, none⟩ = some (.int .i64 x.o) := (cell_blk hbr2 _).trans (hcr2 0 _ rfl)
        have r1 : wC.cell? ⟨gr, i * 8 + 1, none⟩ = some (.int .i64 x.num) := (cell_blk hbr2 _).trans (hcr2 1 _ rfl)
        have r2 : wC.cell? ⟨gr, i * 8 + 2, none⟩ = some (.int .i64 x.c) := (cell_blk hbr2 _).trans (hcr2 2 _ rfl)
        have r3 : wC.cell? ⟨gr, i * 8 + 3, none⟩ = some (.int .i64 x.kind) := (cell_blk hbr2 _).trans (hcr2 3 _ rfl)
        have r4 : wC.cell? ⟨gr, i * 8 + 4, none⟩ = some (.int .i64 x.tc) := (cell_blk hbr2 _).trans (hcr2 4 _ rfl)
        have r5 : wC.cell? ⟨gr, i * 8 + 5, none⟩ = some (.int .i64 x.tk) := (cell_blk hbr2 _).trans (hcr2 5 _ rfl)
        have r6 : wC.cell? ⟨gr, i * 8 + 6, none⟩ = some (.int .i64 x.r) := (cell_blk hbr2 _).trans (hcr2 6 _ rfl)
        have r7 : wC.cell? ⟨gr, i * 8 + 7, none⟩ = some (.slice ak n ck) := (cell_blk hbr2 _).trans (hcr2 7 _ rfl)
        have hON := ops_new (hclk2.grown hGC)
        have gD : wC.grownBy (wC.alloc (.cells #[.int .i64 x.o, .int .i64 x.num, .int .i64 x.c, .int .i64 x.kind, .int .i64 x.tc, .int .i64 x.tk, .int .i64 x.r, .slice ak n ck] 88)) none := grown_alloc (grown_refl _) _
        clear hcr2 hrow2 hbr2
        go_wp2_with fail
        go_roundg (l.length - (i + 1))
        case measure => omega
        case rel => exact ⟨i + 1, out ++ [bt], [x], by go_num, by omega, rfl, by simp, by simpa using hxo, .inl (by simp), by simp; omega, HPK2, hRC.grown gD, hON, grown_trans hGC gD, hOC⟩
      · have hgt : ¬ (120 : Int) < (B1.length : Int) := by omega
        have HPK2 : Hid (out ++ (packs n (sm ++ [x]) (l.drop (i + 1))).map (batch n) = answers n l) := by
          have := HPK.out
          rw [packs_cons, if_neg (by rw [HFL.out, HPL.out]; exact h114)] at this
          exact this
        clear HPK HB1 HBW HBS
        go_wp2_with fail
        go_roundg (l.length - (i + 1))
        case measure => omega
        case rel =>
          refine ⟨i + 1, out, sm ++ [x], by go_num, by omega, rfl, by simp; omega, ?_, .inr ?_, by omega, HPK2, HR3.out.grown hF9.toGrown, by have := HOPS.out.grown g9; simpa using this, grown_trans hG hF9.toGrown, hO3⟩
          · intro y hy
            rcases List.mem_append.1 hy with hy | hy
            · exact hso y hy
            · simp at hy; subst hy; exact hxo
          · have := HFL.out
            have := HPL.out
            simp only [List.flatMap_append, List.flatMap_cons, List.flatMap_nil, List.append_nil, List.length_append]
            omega
    · obtain rfl : i = l.length := by omega
      have hfin := hP.out
      rw [List.drop_length] at hfin
      have HFN := hide hfin
      clear hfin hP
      have HR4 := hide hR4
      obtain ⟨rows4, hRr4, hRl4, -⟩ := hR4
      obtain ⟨a4, c4, rfl, -⟩ := hRr4.value
      rw [hRl4] at HR4 ⊢
      clear hRr4
      by_cases hz : sm.length = 0
      · have hzi : ¬ (0 : Int) < (sm.length : Int) := by omega
        have he : out = answers n l := by
          have := HFN.out
          simpa [packs, hz] using this
        have HE := hide he
        clear he HFN
        go_wp2_with fail
        go_ret
        exact ⟨_, rfl, by rw [← HE.out]; exact hR3, hG, hO3⟩
      · have hzi : (0 : Int) < (sm.length : Int) := by omega
        have he : out ++ [batch n sm] = answers n l := by
          have := HFN.out
          simpa [packs, hz] using this
        have HE := hide he
        clear he HFN
        have HB2 := hide (writeBatR n h8 sm (by omega) hso (.slice none 0 0) _ wr HR4.out)
        generalize hbt : batch n sm = bt at HB2 HE
        clear hbt HR4
        go_wp2_with fail
        refine HB2.out.mono ?_
        rintro e wA ⟨rfl, gA⟩
        have gB : wA.grownBy (wA.alloc (.cells #[str bt] 9)) none := grown_alloc (grown_refl _) _
        have hSb : SrcAt (wA.alloc (.cells #[str bt] 9)) (.slice (some ⟨wA.heap.size, 0, none⟩) 1 1) (strRow [bt]) := src_new wA [str bt] _
        have hR3B := hR3.grown (grown_trans gA gB)
        have hGB := grown_trans hG (grown_trans gA gB)
        have lo : (strRow out).length ≤ 1000 := by rw [strRow_len]; omega
        have lb : (strRow [bt]).length = 1 := rfl
        go_wp2_with (at_builtin; refine wpList_row Tryz.underlying26 infoStr rfl (by decide) rfl _ _ rfl u3 _ rfl hR3B _ _ rfl hSb (strRow_one _) (strRow_cell _) (by unfold maxLen; omega) (by omega) ?_; intro vC wC hRC hgC hatC)
        rw [← strRow_append] at hRC
        go_ret
        refine ⟨vC, rfl, by rw [← HE.out]; exact hRC, ((Fr.ofGrown hGB).grown hgC (fun k hk => .inr (hO3 k hk)) : Fr [] w wC).toGrown, fun g hg => ?_⟩
        rcases hatC with hat | hat
        · exact hO3 g (hat ▸ hg)
        · rw [hat] at hg; cases hg; exact hGB.size

end Go.Proofs.YtachmkhbbbmioaaGreat

namespace Go.Proofs.YtachmkhbbbmioaaGreat
open Go.RowKit Go.Shelf

theorem ckRow_int (S : CS) : ckRow S = intRow (clk S.n S.cl) := ckRowQ_int S.n S.cl

set_option maxRecDepth 100000 in
set_option maxHeartbeats 4000000 in
theorem ref_tick (yb : Nat) (S : CS) (hG : Good S) (vc vl vw vL : Value) (log wt : List (List Value)) (w : World) (h : RefAt yb S vc vl vw vL log wt w) :
    Calls Tryz.prog 51 #[.pointer (some ⟨yb, 0, none⟩)] w fun e w' => e = .returned (str (digest S.n S.s S.cl)) ∧ w.grownBy w' none := by
  have h8 := hG.n8
  have hs1 := hG.s1
  have hsn := hG.sn
  have hck := h.ck
  rw [ckRow_int] at hck
  obtain ⟨ak, ck, hvc, -⟩ := hck.value
  rw [intRow_len, clk_len] at hvc
  have c1 : w.cell? ⟨yb, 1, none⟩ = some (.int .i64 S.s) := cell_blk h.cp 1
  have c2 : w.cell? ⟨yb, 2, none⟩ = some vc := cell_blk h.cp 2
  rw [hvc] at c2 hck
  have HW := hide (writeDigR S.s (by omega) (by omega) S.n h8 S.cl (fun i hi => hG.cl i (by omega)) (.slice ak S.n ck) (.slice none 0 0) w.drew (hck.kept (fun _ _ => rfl)))
  generalize digest S.n S.s S.cl = D at HW ⊢
  clear h hvc hck
  go_enter Tryz.func51, Tryz.ntmps51
  go_wp2_with fail
  go_region_held3 (fun w' => w'.cell? ⟨yb, 1, none⟩ = some (.int .i64 S.s) ∧ w'.cell? ⟨yb, 2, none⟩ = some (.slice ak S.n ck))
    (first | go_keep | exact ⟨cc _ _ c1, cc _ _ c2⟩)
    (first | (go_at_call 42; refine HW.out.mono ?_; rintro e w1 ⟨rfl, hg⟩; have cc : ∀ (a : Addr) (x : Value), w.cell? a = some x → w1.cell? a = some x := fun a x hx => cell_of_grown hx (grown_trans (grown_drew (grown_refl w)) hg)))
  all_goals
    go_wp2_with fail
    go_ret
    exact ⟨rfl, grown_trans (grown_drew (grown_refl w)) hg⟩

set_option maxRecDepth 100000 in
set_option maxHeartbeats 4000000 in
theorem ref_hand (yb : Nat) (S : CS) (hG : Good S) (ho : OpsOk S) (vc vl vw vL : Value) (log wt : List (List Value)) (ks : List Nat) (s : Int) (hs1 : 1 ≤ s) (hsn : s ≤ S.n) (q : Nat → Int) (hq : ∀ i, i < S.n → 0 ≤ q i ∧ q i ≤ 100) (w : World) (h : RefAt yb S vc vl vw vL log wt w) (hlg : LogAt S.n ks log S.ops w) (hlog : log.length ≤ 1000) :
    Calls Tryz.prog 37 #[.pointer (some ⟨yb, 0, none⟩), str (digest S.n s q)] w fun e w' => ∃ v', e = .returned (.tuple #[v', .int .i64 0]) ∧ RowAt 9 1 v' (strRow (answers S.n (miss S q))) w' ∧ w.grownBy w' none ∧ (∀ g, v'.ownBlock = some g → w.heap.size ≤ g) := by
  have h8 := hG.n8
  have h1 : 1 ≤ S.n := by have := hG.s1; have := hG.sn; omega
  have c0 : w.cell? ⟨yb, 0, none⟩ = some (.int .i64 S.n) := cell_blk h.cp 0
  have HR := hide (readR S.n h1 h8 s hs1 hsn q hq w)
  have hMi := fun (v : Value) (w' : World) (hw : RefAt yb S vc vl vw vL log wt w') (hl : LogAt S.n ks log S.ops w') (hv : RowAt 3 1 v (intRow (clk S.n q)) w') => missingR yb S hG ho vc vl vw vL log wt ks q hq v w' hw hl hlog hv
  have hml := missTo_len hG ho q (fun i hi => (hq i hi).1) S.n (Nat.le_refl _)
  have hBa := fun (v : Value) (w' : World) (hv : OpsRow S.n v (miss S q) w') => batchesR S.n h8 (miss S q) (by show (missTo S q S.n).length ≤ 1000; omega) (fun x hx => (ho.ok x (miss_mem hx)).1) v w' hv
  have hs0 : (0 : Int) < s := by omega
  generalize answers S.n (miss S q) = AN at hBa ⊢
  generalize miss S q = MS at hMi hBa
  generalize digest S.n s q = D at HR ⊢
  have HMi := hide hMi
  have HBa := hide hBa
  clear hMi hBa hml hq
  go_enter Tryz.func37, Tryz.ntmps37
  go_wp2_with fail
  refine HR.out.mono ?_
  rintro e w1 ⟨vq, rfl, hRq, g1⟩
  obtain ⟨aq, cq, rfl, -⟩ := hRq.value
  rw [intRow_len, clk_len] at hRq ⊢
  go_upto_region 2 with fail
  have g2 : w1.grownBy (w1.alloc (.cells #[.int .i64 s, .slice aq S.n cq, .slice none 0 0] 84)) none := grown_alloc (grown_refl _) _
  have k2 : (w1.alloc (.cells #[.int .i64 s, .slice aq S.n cq, .slice none 0 0] 84)).heap[w1.heap.size]? = some (.cells #[.int .i64 s, .slice aq S.n cq, .slice none 0 0] 84) := by rw [heap_alloc_at]; simp
  generalize (w1.alloc (.cells #[.int .i64 s, .slice aq S.n cq, .slice none 0 0] 84)) = w2 at g2 k2 ⊢
  generalize w1.heap.size = bf at k2 ⊢
  have gA := grown_trans g1 g2
  have d0 : w2.cell? ⟨bf, 0, none⟩ = some (.int .i64 s) := cell_blk k2 0
  have d1 : w2.cell? ⟨bf, 1, none⟩ = some (.slice aq S.n cq) := cell_blk k2 1
  have HM2 := hide (HMi.out _ w2 (h.grown gA) (hlg.kept (fun k hk => gA.block k (hlg.lt k hk) (by simp))) (hRq.grown g2))
  clear HR HMi c0 h hlg hRq k2
  go_wp2_with fail
  refine HM2.out.mono ?_
  rintro e w3 ⟨v3, rfl, hR3, g3, -⟩
  go_wp2_with fail
  refine (HBa.out v3 w3 hR3).mono ?_
  rintro e w4 ⟨v4, rfl, hR4, g4, hO4⟩
  go_wp2_with fail
  exact bodyPost_ret (v := .tuple #[v4, .int .i64 0]) (by simp [results, Tryz.results37, go_sem]) rfl ⟨v4, rfl, hR4, grown_trans gA (grown_trans g3 g4), fun g hg => Nat.le_trans gA.size (Nat.le_trans g3.size (hO4 g hg))⟩

end Go.Proofs.YtachmkhbbbmioaaGreat

namespace Go.Proofs.YtachmkhbbbmioaaGreat
open Go.RowKit Go.Shelf

theorem ask_tick (x : Pr) (w : World) (h : PairAt x w) :
    Calls Tryz.prog 30 #[.pointer (some ⟨x.cb, 0, none⟩)] w fun e w1 => e = .returned (str (digest x.S.n x.S.s x.S.cl)) ∧ PairAt x w1 ∧ Fr x.own w w1 := by
  refine (face_tick x.cb x.sb x.ma x.mp x.lb x.mb x.S w h.cp (str (digest x.S.n x.S.s x.S.cl)) (fun w2 => StAt x.sb x.ma x.mp x.lb x.mb x.S w2) (fun w1 _ hS => ?_)).mono ?_
  · refine (stTickP _ _ _ _ _ x.S h.good w1 hS).mono ?_
    rintro e w2 ⟨rfl, hg⟩
    exact ⟨rfl, hS.grown hg, Fr.ofGrown hg⟩
  · rintro e w' ⟨rfl, w2, hS2, hk, rfl, hF⟩
    exact ⟨rfl, pair_prog h (CpAt.unlock hS2 hk) hF⟩

theorem hand_prog (x : Pr) (s : Int) (hs1 : 1 ≤ s) (hsn : s ≤ x.S.n) (q : Nat → Int) (hq : ∀ i, i < x.S.n → 0 ≤ q i ∧ q i ≤ 100) (w : World) (h : PairAt x w) :
    Calls Tryz.prog 31 #[.pointer (some ⟨x.cb, 0, none⟩), str (digest x.S.n s q)] w fun e w1 => ∃ v, e = .returned (.tuple #[v, .int .i64 0]) ∧ RowAt 9 1 v (strRow (answers x.S.n (miss x.S q))) w1 ∧ (∀ g, v.ownBlock = some g → w.heap.size ≤ g) ∧ PairAt x w1 ∧ Fr x.own w w1 := by
  have hcb := lt_of_heap h.cp.cp
  refine (face_hand x.cb x.sb x.ma x.mp x.lb x.mb x.S (str (digest x.S.n s q)) w h.cp (fun v w2 => StAt x.sb x.ma x.mp x.lb x.mb x.S w2 ∧ RowAt 9 1 v (strRow (answers x.S.n (miss x.S q))) w2 ∧ ∀ g, v.ownBlock = some g → w.heap.size ≤ g) (fun w1 hw1 hS => ?_)).mono ?_
  · refine (stHandP _ _ _ _ _ x.S h.good h.ops s hs1 hsn q hq w1 hS).mono ?_
    rintro e w2 ⟨v, rfl, hR, hg, hO⟩
    exact ⟨v, rfl, ⟨hS.grown hg, hR, fun g hg => by rw [← hw1]; exact hO g hg⟩, Fr.ofGrown hg⟩
  · rintro e w' ⟨v, rfl, w2, ⟨hS2, hR, hO⟩, hk, rfl, hF⟩
    refine ⟨v, rfl, hR.kept (fun g hg => Below.heap_setCell _ _ _ _ (by have := hO g hg; simp; omega)), hO, pair_prog h (CpAt.unlock hS2 hk) hF⟩

theorem hand_ref (x : Pr) (s : Int) (hs1 : 1 ≤ s) (hsn : s ≤ x.S.n) (q : Nat → Int) (hq : ∀ i, i < x.S.n → 0 ≤ q i ∧ q i ≤ 100) (w : World) (h : PairAt x w) :
    Calls Tryz.prog 37 #[.pointer (some ⟨x.yb, 0, none⟩), str (digest x.S.n s q)] w fun e w1 => ∃ v, e = .returned (.tuple #[v, .int .i64 0]) ∧ RowAt 9 1 v (strRow (answers x.S.n (miss x.S q))) w1 ∧ w.grownBy w1 none ∧ (∀ g, v.ownBlock = some g → w.heap.size ≤ g) :=
  ref_hand x.yb x.S h.good h.ops _ _ _ _ _ _ x.ks s hs1 hsn q hq w h.rf h.lg (by have := h.l1000; omega)

end Go.Proofs.YtachmkhbbbmioaaGreat

import Derived.Test.YtachmkhbbbmioaaGreatNetNX
namespace Go.Proofs.YtachmkhbbbmioaaGreat
open Go.RowKit Go.Shelf

/-- An insert, as an operation that is applied. -/
theorem ins_step {S : CS} (hI : Inv S) (hz : ∀ j, S.n ≤ j → S.cl j = 0) (hf : S.cl (S.s - 1) < 100 ∧ S.g < 1099511627776) {A R : List El} (hL : S.L = A ++ R) {r : Int} (hr : Lib.validRune r = true) :
    Ok8 S.n (opIns S (lc A) (lk A) r) ∧ Inv { S with cl := bump S.cl (S.s - 1), g := S.g + 1, L := A ++ behind (newEl S r hr) R, ops := opIns S (lc A) (lk A) r :: S.ops } := by
  have hs1 := hI.good.s1
  have hsn := hI.good.sn
  have hg0 := hI.good.g0
  have hn8 := hI.good.n8
  have hsc := valid_sc hr
  obtain ⟨x, hx⟩ : ∃ x, opIns S (lc A) (lk A) r = x := ⟨_, rfl⟩
  have x0 : x.o = (S.s : Int) := by rw [← hx]; rfl
  have x1 : x.num = S.cl (S.s - 1) + 1 := by rw [← hx]; rfl
  have x2 : x.c = S.g + 1 := by rw [← hx]; rfl
  have x3 : x.kind = 0 := by rw [← hx]; rfl
  have x4 : x.tc = lc A := by rw [← hx]; rfl
  have x5 : x.tk = lk A := by rw [← hx]; rfl
  have x6 : x.r = r := by rw [← hx]; rfl
  have x7 : x.q = S.cl := by rw [← hx]; rfl
  have eo : x.o.toNat - 1 = S.s - 1 := by omega
  have h0i := (hI.good.cl (S.s - 1) (by omega)).1
  have htgt : (x.tc = 0 ∧ x.tk = 0 ∧ x.kind = 0) ∨ (1 ≤ x.tc ∧ x.tc ≤ x.c - 1 ∧ 1 ≤ x.tk ∧ x.tk ≤ S.n) := by
    rw [x4, x5, x3, x2]
    rcases A.eq_nil_or_concat with rfl | ⟨B, y, rfl⟩
    · exact .inl ⟨rfl, rfl, rfl⟩
    · rw [List.concat_eq_append] at *
      obtain ⟨l1, l2, -, -⟩ := last_snoc B y
      have hy : y ∈ S.L := by rw [hL]; simp
      have m1 := hI.good.mark y hy
      have m2 := hI.ops.mkk y hy
      rw [l1, l2]
      right
      omega
  have ok : Ok8 S.n x := by
    refine ⟨by omega, by omega, by omega, by omega, htgt, fun _ => by rw [x6]; exact hsc, fun q => by omega, fun j hj => ?_, fun j hj => ?_, ?_⟩
    · rw [x7]; exact hI.good.cl j (by omega)
    · rw [x7]; exact hz j hj
    · rw [x7, eo, x1]; omega
  have rdy : RdyS S x := by
    refine ⟨by rw [eo, x1], fun j _ => by rw [x7]; exact Int.le_refl _, by rw [x4, x5]; exact hasM_cut hL, .inr ?_⟩
    rw [hasM_false]
    refine ⟨by omega, fun y hy q => ?_⟩
    have := (hI.good.mark y hy).2
    omega
  have e : applyS S x = { S with cl := bump S.cl (S.s - 1), g := S.g + 1, L := A ++ behind (newEl S r hr) R, ops := x :: S.ops } := by
    have e1 : applyL x S.L = A ++ behind (newEl S r hr) R := by
      rw [applyL_cut hI x3 (by rw [x6]; exact hsc) hL x4 x5]
      congr 2
      unfold OpR.el newEl
      congr 1
    unfold applyS
    rw [e1, eo, x2]
    congr 1
    omega
  rw [hx]
  refine ⟨ok, ?_⟩
  rw [← e]
  exact inv_apply hI ok rdy

theorem cut_all {L A R : List El} {p : Nat} (hv : ∀ e ∈ L, e.d = false) (h : CutIs L p A R) : A = L.take p ∧ R = L.drop p := by
  obtain ⟨hL, hA, -, -⟩ := h
  have : vis A = A := List.filter_eq_self.2 (fun e he => by rw [hv e (by rw [hL]; simp [he])]; rfl)
  rw [this] at hA
  subst hA
  rw [hL]
  simp

def insS (S : CS) (p : Nat) (r : Int) (hr : Lib.validRune r = true) : CS := { S with cl := bump S.cl (S.s - 1), g := S.g + 1, L := S.L.take p ++ behind (newEl S r hr) (S.L.drop p), ops := opIns S (lc (S.L.take p)) (lk (S.L.take p)) r :: S.ops }

theorem v97 : Lib.validRune 97 = true := by decide
theorem v98 : Lib.validRune 98 = true := by decide
theorem v99 : Lib.validRune 99 = true := by decide
theorem v120 : Lib.validRune 120 = true := by decide

def wA1 : CS := insS (newS 2 1) 0 97 v97
def wA2 : CS := insS wA1 1 99 v99
def wA3 : CS := insS wA2 1 98 v98
def wB1 : CS := insS (newS 2 2) 0 120 v120

theorem ins_inv {S : CS} (hI : Inv S) (hz : ∀ j, S.n ≤ j → S.cl j = 0) (hf : S.cl (S.s - 1) < 100 ∧ S.g < 1099511627776) (p : Nat) {r : Int} (hr : Lib.validRune r = true) : Inv (insS S p r hr) ∧ (∀ j, (insS S p r hr).n ≤ j → (insS S p r hr).cl j = 0) ∧ Ok8 S.n (opIns S (lc (S.L.take p)) (lk (S.L.take p)) r) := by
  have := ins_step hI hz hf (A := S.L.take p) (R := S.L.drop p) (List.take_append_drop _ _).symm hr
  refine ⟨this.2, fun j hj => ?_, this.1⟩
  show bump S.cl (S.s - 1) j = 0
  have hs1 := hI.good.s1
  have hsn := hI.good.sn
  have hj' : S.n ≤ j := hj
  rw [bump_other _ (by omega)]
  exact hz j hj

theorem new_inv {n s : Nat} (h1 : 1 ≤ s) (h2 : s ≤ n) (h8 : n ≤ 8) : Inv (newS n s) :=
  ⟨newS_good h1 h2 h8, ⟨by simp [newS], fun i _ k k1 k2 => by simp [newS] at k2; omega, by simp [newS], by simp [newS]⟩, ⟨by simp [newS], by simp [newS], by simp [newS]⟩, by simp [newS, sumcl], by simp [newS, sumcl], by simp [newS, Apart]⟩

theorem wA1_inv : Inv wA1 ∧ (∀ j, wA1.n ≤ j → wA1.cl j = 0) ∧ Ok8 2 (opIns (newS 2 1) (lc ((newS 2 1).L.take 0)) (lk ((newS 2 1).L.take 0)) 97) := ins_inv (new_inv (by omega) (by omega) (by omega)) (fun _ _ => rfl) (by decide) 0 v97
theorem wA2_inv : Inv wA2 ∧ (∀ j, wA2.n ≤ j → wA2.cl j = 0) ∧ Ok8 2 (opIns wA1 (lc (wA1.L.take 1)) (lk (wA1.L.take 1)) 99) := ins_inv wA1_inv.1 wA1_inv.2.1 (by decide) 1 v99
theorem wA3_inv : Inv wA3 ∧ (∀ j, wA3.n ≤ j → wA3.cl j = 0) ∧ Ok8 2 (opIns wA2 (lc (wA2.L.take 1)) (lk (wA2.L.take 1)) 98) := ins_inv wA2_inv.1 wA2_inv.2.1 (by decide) 1 v98
theorem wB1_inv : Inv wB1 ∧ (∀ j, wB1.n ≤ j → wB1.cl j = 0) ∧ Ok8 2 (opIns (newS 2 2) (lc ((newS 2 2).L.take 0)) (lk ((newS 2 2).L.take 0)) 120) := ins_inv (new_inv (by omega) (by omega) (by omega)) (fun _ _ => rfl) (by decide) 0 v120

def wo1 : OpR := opIns (newS 2 1) (lc ((newS 2 1).L.take 0)) (lk ((newS 2 1).L.take 0)) 97
def wo2 : OpR := opIns wA1 (lc (wA1.L.take 1)) (lk (wA1.L.take 1)) 99
def wo3 : OpR := opIns wA2 (lc (wA2.L.take 1)) (lk (wA2.L.take 1)) 98

theorem w_miss : miss wA3 wB1.cl = [wo1, wo2, wo3] := by rfl
theorem w_tx : tx wA3 = [97, 98, 99] := by rfl

theorem takes_ready {S : CS} (hw : S.wt = []) {x : OpR} (hr : RdyS S x) : takesS S x = applyS S x := by
  unfold takesS
  have hk : ¬ knownS S x := by
    rintro (⟨y, hy, -⟩ | q)
    · rw [hw] at hy; cases hy
    · have := hr.1; omega
  rw [if_neg hk, if_pos hr, hw]
  rfl

theorem rdy_of {S : CS} {x : OpR} (h1 : x.num = S.cl (x.o.toNat - 1) + 1) (h2 : x.q 0 ≤ S.cl 0 ∧ x.q 1 ≤ S.cl 1 ∧ x.q 2 ≤ S.cl 2 ∧ x.q 3 ≤ S.cl 3 ∧ x.q 4 ≤ S.cl 4 ∧ x.q 5 ≤ S.cl 5 ∧ x.q 6 ≤ S.cl 6 ∧ x.q 7 ≤ S.cl 7) (h3 : hasM x.tc x.tk S.L = true) (h4 : hasM x.c x.o S.L = false) : RdyS S x := by
  refine ⟨h1, fun i hi => ?_, h3, .inr h4⟩
  have : i = 0 ∨ i = 1 ∨ i = 2 ∨ i = 3 ∨ i = 4 ∨ i = 5 ∨ i = 6 ∨ i = 7 := by omega
  rcases this with rfl | rfl | rfl | rfl | rfl | rfl | rfl | rfl
  · exact h2.1
  · exact h2.2.1
  · exact h2.2.2.1
  · exact h2.2.2.2.1
  · exact h2.2.2.2.2.1
  · exact h2.2.2.2.2.2.1
  · exact h2.2.2.2.2.2.2.1
  · exact h2.2.2.2.2.2.2.2

theorem w_takes : takesAll wB1 [wo1, wo2, wo3] = applyS (applyS (applyS wB1 wo1) wo2) wo3 := by
  have r1 : RdyS wB1 wo1 := rdy_of (by decide) (by decide) (by decide) (by decide)
  have r2 : RdyS (applyS wB1 wo1) wo2 := rdy_of (by decide) (by decide) (by decide) (by decide)
  have r3 : RdyS (applyS (applyS wB1 wo1) wo2) wo3 := rdy_of (by decide) (by decide) (by decide) (by decide)
  show takesS (takesS (takesS wB1 wo1) wo2) wo3 = _
  rw [takes_ready rfl r1, takes_ready rfl r2, takes_ready rfl r3]

theorem w_end : tx (applyS (applyS (applyS wB1 wo1) wo2) wo3) = [120, 97, 98, 99] := by rfl

theorem packs_one {n : Nat} : ∀ (l sm : List OpR), (sm ++ l) ≠ [] → ((sm ++ l).flatMap (OpR.bytes n)).length ≤ 114 → packs n sm l = [sm ++ l]
  | [], sm, h, _ => by
    unfold packs
    rw [if_neg (fun q => h (by simpa using List.eq_nil_of_length_eq_zero q))]
    simp
  | x :: l, sm, h, hl => by
    have e : sm ++ x :: l = (sm ++ [x]) ++ l := by simp
    rw [packs_cons, if_neg, e]
    · exact packs_one l (sm ++ [x]) (by simp) (by rw [← e]; exact hl)
    · rw [List.flatMap_append, List.flatMap_cons, List.length_append, List.length_append] at hl
      omega

theorem vbs_ones (l : List Int) (h : ∀ x ∈ l, 0 ≤ x ∧ x < 128) : (vbs l).length = l.length := by
  induction l with
  | nil => rfl
  | cons x l ih =>
    simp only [vbs, List.length_append, List.length_cons]
    rw [vb_one (h x (by simp)), ih (fun y hy => h y (by simp [hy]))]; omega

theorem w_bytes {x : OpR} (h : ∀ y ∈ x.nums ++ clk 2 x.q, 0 ≤ y ∧ y < 128) (hl : (x.nums ++ clk 2 x.q).length = 9) : (x.bytes 2).length = 9 := by
  unfold OpR.bytes
  rw [List.length_append, vbs_ones _ (fun y hy => h y (by simp [hy])), vbs_ones _ (fun y hy => h y (by simp [hy])), ← List.length_append]
  exact hl

theorem w_ans : answers 2 (miss wA3 wB1.cl) = [sealB (66 :: bEnc 2 [wo1, wo2, wo3])] ∧ bOk 2 [wo1, wo2, wo3] ∧ (sealB (66 :: bEnc 2 [wo1, wo2, wo3])).length ≤ 120 := by
  have b1 : (wo1.bytes 2).length = 9 := w_bytes (by decide) (by decide)
  have b2 : (wo2.bytes 2).length = 9 := w_bytes (by decide) (by decide)
  have b3 : (wo3.bytes 2).length = 9 := w_bytes (by decide) (by decide)
  have hb : ([wo1, wo2, wo3].flatMap (OpR.bytes 2)).length ≤ 114 := by
    simp only [List.flatMap_cons, List.flatMap_nil, List.append_nil, List.length_append]
    omega
  have hok : ∀ x ∈ [wo1, wo2, wo3], Ok8 2 x := fun x hx => by
    simp only [List.mem_cons, List.not_mem_nil, or_false] at hx
    rcases hx with rfl | rfl | rfl
    · exact wA1_inv.2.2
    · exact wA2_inv.2.2
    · exact wA3_inv.2.2
  obtain ⟨p1, p2⟩ := pack_ok (by simp) hb hok
  rw [batch_enc] at p2
  refine ⟨?_, p1, p2⟩
  unfold answers
  rw [w_miss, packs_one _ [] (by simp) (by simpa using hb)]
  simp [batch_enc]

end Go.Proofs.YtachmkhbbbmioaaGreat

namespace Go.Proofs.YtachmkhbbbmioaaGreat
open Go.RowKit Go.Shelf

theorem qInsV (x : Cq) (p : Nat) (r : Int) (hp : p ≤ (tx x.S).length) (hr : Lib.validRune r = true) (hf : decide (100 ≤ x.S.cl (x.S.s - 1) ∨ 1099511627776 ≤ x.S.g) = false) (hv : ∀ e ∈ x.S.L, e.d = false) (w : World) (h : x.At w) (hI : Inv x.S) :
    Calls Tryz.prog 54 #[x.ptr, .int .i64 p, .int .i32 r] w fun e w1 => e = .returned (.int .i64 0) ∧ Cq.At { x with S := insS x.S p r hr } w1 ∧ Fr x.own w w1 := by
  refine (qIns x p r hp hr hf w h hI).mono ?_
  rintro e w1 ⟨rfl, A, R, hC, hx, hF⟩
  obtain ⟨rfl, rfl⟩ := cut_all hv hC
  exact ⟨rfl, hx, hF⟩

theorem w_abc : txtR (tx wA3) = [97, 98, 99] := by rw [w_tx]; rfl
theorem w_xabc : txtR (tx (takesAll wB1 [wo1, wo2, wo3])) = [120, 97, 98, 99] := by rw [w_takes, w_end]; rfl

/-- What was done to one copy leaves the other. -/
theorem Cq.At.other {x y : Cq} {w w' : World} (h : y.At w) (hd : ∀ k ∈ y.own, k ∉ x.own) (hF : Fr x.own w w') : y.At w' := h.kept (fun k hk => hF.block k (h.lt k hk) (hd k hk))

set_option maxRecDepth 100000 in
set_option maxHeartbeats 4000000 in
theorem worksK (w : World) : Calls Tryz.prog 18 #[] w fun e w' => e = .returned (.bool true) ∧ Below w.heap.size w w' := by
  have HO := hide (openedK 2 (by omega) (by omega) w)
  have e2 : ((2 : Nat) : Int) = 2 := rfl
  rw [e2] at HO
  go_enter Tryz.func18, Tryz.ntmps18
  go_wp2_with fail
  refine HO.out.mono ?_
  rintro e w1 ⟨nb, rfl, N, hN, hlen, hS, -, -, -, hB1⟩
  obtain ⟨a0, b0, hab⟩ : ∃ a b, N.cps = [a, b] := by
    match N.cps, hlen with
    | [a, b], _ => exact ⟨a, b, rfl⟩
  have ha0 : N.cps[0]? = some a0 := by rw [hab]; rfl
  have hb0 : N.cps[1]? = some b0 := by rw [hab]; rfl
  obtain ⟨gl, cl, hvl⟩ := hN.vlv (by omega)
  rw [hlen] at hvl
  obtain ⟨c0, ci⟩ := hN.ptrs hvl
  have ca := ci 0 a0 ha0
  have cb := ci 1 b0 hb0
  have haA := hN.cps 0 a0 ha0
  have hbA := hN.cps 1 b0 hb0
  have hd1 := (hN.apart ha0).2.1 1 b0 hb0 (by omega)
  have hd2 := (hN.apart hb0).2.1 0 a0 ha0 (by omega)
  have hba := (hN.apart ha0).2.2
  have hbb := (hN.apart hb0).2.2
  have hSa := hS 0 a0 ha0
  have hSb := hS 1 b0 hb0
  obtain ⟨acb, asb, ama, amp, alb, amb, aS⟩ := a0
  obtain ⟨bcb, bsb, bma, bmp, blb, bmb, bS⟩ := b0
  simp only at hSa hSb
  subst hSa hSb
  have hbs : w.heap.size ≤ w1.heap.size := hB1.size
  clear hN hlen hS ci hab ha0 hb0 hvl HO
  have HA1 := hide (fun w h => qInsV ⟨acb, asb, ama, amp, alb, amb, newS 2 1⟩ 0 97 (show 0 ≤ (tx (newS 2 1)).length by decide) v97 (show decide (100 ≤ (newS 2 1).cl ((newS 2 1).s - 1) ∨ 1099511627776 ≤ (newS 2 1).g) = false by decide) (show ∀ e ∈ (newS 2 1).L, e.d = false by decide) w h (new_inv (by omega) (by omega) (by omega)))
  have HA2 := hide (fun w h => qInsV ⟨acb, asb, ama, amp, alb, amb, wA1⟩ 1 99 (show 1 ≤ (tx (wA1)).length by decide) v99 (show decide (100 ≤ (wA1).cl ((wA1).s - 1) ∨ 1099511627776 ≤ (wA1).g) = false by decide) (show ∀ e ∈ (wA1).L, e.d = false by decide) w h wA1_inv.1)
  have HA3 := hide (fun w h => qInsV ⟨acb, asb, ama, amp, alb, amb, wA2⟩ 1 98 (show 1 ≤ (tx (wA2)).length by decide) v98 (show decide (100 ≤ (wA2).cl ((wA2).s - 1) ∨ 1099511627776 ≤ (wA2).g) = false by decide) (show ∀ e ∈ (wA2).L, e.d = false by decide) w h wA2_inv.1)
  have HB1 := hide (fun w h => qInsV ⟨bcb, bsb, bma, bmp, blb, bmb, newS 2 2⟩ 0 120 (show 0 ≤ (tx (newS 2 2)).length by decide) v120 (show decide (100 ≤ (newS 2 2).cl ((newS 2 2).s - 1) ∨ 1099511627776 ≤ (newS 2 2).g) = false by decide) (show ∀ e ∈ (newS 2 2).L, e.d = false by decide) w h (new_inv (by omega) (by omega) (by omega)))
  have HT := hide (fun w h => qText ⟨acb, asb, ama, amp, alb, amb, wA3⟩ w h wA3_inv.1)
  have HK := hide (fun w h => qTick ⟨bcb, bsb, bma, bmp, blb, bmb, wB1⟩ w h wB1_inv.1)
  have HD := hide (fun w h => qHandDig ⟨acb, asb, ama, amp, alb, amb, wA3⟩ 2 (by decide) (show (2 : Int) ≤ (wA3.n : Int) by decide) wB1.cl (fun i hi => wB1_inv.1.good.cl i (Nat.lt_of_lt_of_le hi (show wA3.n ≤ 8 by decide))) w h wA3_inv.1)
  have HBt := hide (fun w h => qHandBat ⟨bcb, bsb, bma, bmp, blb, bmb, wB1⟩ [wo1, wo2, wo3] w_ans.2.1 w_ans.2.2 w h wB1_inv.1)
  have HTB := hide (fun w h => qText ⟨bcb, bsb, bma, bmp, blb, bmb, takesAll wB1 [wo1, wo2, wo3]⟩ w h (inv_takesAll _ wB1_inv.1 w_ans.2.1.2))
  simp only [w_abc] at HT
  simp only [w_xabc] at HTB
  have eD : answers wA3.n (miss wA3 wB1.cl) = [sealB (66 :: bEnc 2 [wo1, wo2, wo3])] := w_ans.1
  simp only [eD] at HD
  generalize hFF : sealB (66 :: bEnc 2 [wo1, wo2, wo3]) = FF at HD
  have hFF' : sealB (66 :: bEnc wB1.n [wo1, wo2, wo3]) = FF := hFF
  simp only [hFF'] at HBt
  have z0 : ((0 : Nat) : Int) = 0 := rfl
  have z1 : ((1 : Nat) : Int) = 1 := rfl
  simp only [z0, z1] at HA1 HA2 HA3 HB1
  have hDD : digest wA3.n 2 wB1.cl = digest wB1.n (wB1.s : Int) wB1.cl := rfl
  simp only [hDD] at HD
  generalize digest wB1.n (wB1.s : Int) wB1.cl = DD at HD HK
  clear eD hFF hFF' z0 z1 e2 hDD
  go_wp2_with fail
  refine (HA1.out w1 haA).mono ?_
  rintro e w2 ⟨rfl, ha2, hF2⟩
  have ha2' : Cq.At ⟨acb, asb, ama, amp, alb, amb, wA1⟩ w2 := ha2
  go_wp2_with fail
  refine (HA2.out w2 ha2').mono ?_
  rintro e w3 ⟨rfl, ha3, hF3⟩
  have ha3' : Cq.At ⟨acb, asb, ama, amp, alb, amb, wA2⟩ w3 := ha3
  go_wp2_with fail
  refine (HA3.out w3 ha3').mono ?_
  rintro e w4 ⟨rfl, ha4, hF4⟩
  have ha4' : Cq.At ⟨acb, asb, ama, amp, alb, amb, wA3⟩ w4 := ha4
  have hFa4 := (hF2.trans hF3).trans hF4
  have hb4 := hbA.other hd1 hFa4
  go_wp2_with fail
  refine (HB1.out w4 hb4).mono ?_
  rintro e w5 ⟨rfl, hb5, hF5⟩
  have hb5' : Cq.At ⟨bcb, bsb, bma, bmp, blb, bmb, wB1⟩ w5 := hb5
  have ha5 := ha4'.other hd2 hF5
  go_wp2_with fail
  refine (HT.out w5 ha5).mono ?_
  rintro e w6 ⟨rfl, ha6, hF6⟩
  have hb6 := hb5'.other hd1 hF6
  go_wp2_with fail
  refine (HK.out w6 hb6).mono ?_
  rintro e w7 ⟨rfl, hb7, hF7⟩
  have ha7 := ha6.other hd2 hF7
  go_wp2_with fail
  refine (HD.out w7 ha7).mono ?_
  rintro e w8 ⟨v, rfl, hv, -, ha8, hF8⟩
  have hb8 := hb7.other hd1 hF8
  obtain ⟨gv, cv, cur, hve, -, hbv, hcv⟩ := hv.cell (i := 0) (x := [str FF]) (by simp [strRow])
  have hlv : (strRow [FF]).length = 1 := rfl
  rw [hlv] at hve
  subst hve
  have r0 : w8.cell? ⟨gv, 0, none⟩ = some (str FF) := (cell_blk hbv _).trans (by simpa using hcv 0 _ rfl)
  clear hcv hbv hv
  have hfin : ∀ (w9 : World), Fr (Cq.own ⟨bcb, bsb, bma, bmp, blb, bmb, wB1⟩) w8 w9 → Below w.heap.size w w9 := fun w9 hF9 => by
    have A1 := hFa4.toBelow (B := w.heap.size) hbs hba
    have s4 := Nat.le_trans hbs hFa4.size
    have A2 := hF5.toBelow (B := w.heap.size) s4 hbb
    have s5 := Nat.le_trans s4 hF5.size
    have A3 := hF6.toBelow (B := w.heap.size) s5 hba
    have s6 := Nat.le_trans s5 hF6.size
    have A4 := hF7.toBelow (B := w.heap.size) s6 hbb
    have s7 := Nat.le_trans s6 hF7.size
    have A5 := hF8.toBelow (B := w.heap.size) s7 hba
    have s8 := Nat.le_trans s7 hF8.size
    have A6 := hF9.toBelow (B := w.heap.size) s8 hbb
    exact ((((((hB1.trans A1).trans A2).trans A3).trans A4).trans A5).trans A6)
  have HFIN := hide hfin
  clear hfin hF2 hF3 hF4 hF5 hF6 hF7 hF8 hFa4 ha2 ha2' ha3 ha3' ha4 ha4' ha5 ha6 ha7 ha8 hb4 hb5 hb5' hb6 hb7 haA hbA hd1 hd2 hba hbb hB1 c0 ca cb HA1 HA2 HA3 HB1 HT HK HD
  go_wp2_with fail
  refine (HBt.out w8 hb8).mono ?_
  rintro e w9 ⟨rfl, hb9, hF9⟩
  go_wp2_with fail
  refine (HTB.out w9 hb9).mono ?_
  rintro e w10 ⟨rfl, -, hF10⟩
  have hB10 := HFIN.out _ (hF9.trans hF10)
  go_wp2_with fail
  go_ret
  exact ⟨rfl, hB10⟩

end Go.Proofs.YtachmkhbbbmioaaGreat

namespace Go.Proofs.YtachmkhbbbmioaaGreat
open Go.RowKit Go.Shelf

/-- An act in memory. -/
def ActK (w : World) (b off i : Nat) (k C A B : Int) : Prop :=
  w.cell? ⟨b, off + i * 4, none⟩ = some (.int .i64 k) ∧ w.cell? ⟨b, off + i * 4 + 1, none⟩ = some (.int .i64 C) ∧ w.cell? ⟨b, off + i * 4 + 2, none⟩ = some (.int .i64 A) ∧ w.cell? ⟨b, off + i * 4 + 3, none⟩ = some (.int .i64 B) ∧
    (-9223372036854775808 ≤ k ∧ k ≤ 9223372036854775807) ∧ (-9223372036854775808 ≤ C ∧ C ≤ 9223372036854775807) ∧ (-9223372036854775808 ≤ A ∧ A ≤ 9223372036854775807) ∧ (-9223372036854775808 ≤ B ∧ B ≤ 9223372036854775807)

/-- A net that has just been opened. -/
theorem NI.new {base nb n : Nat} {N : NS} {w : World} (h1 : 1 ≤ n) (h8 : n ≤ 8) (h : NAt base nb N w) (hl : N.cps.length = n) (hS : ∀ (j : Nat) (x : Cq), N.cps[j]? = some x → x.S = newS n (j + 1)) (ha : N.air = []) (hw : N.wr = []) (hd : N.de = []) : NI base nb N n w := by
  refine ⟨h, hl, ?_, by rw [ha]; simp⟩
  rw [hw, hd]
  refine NetOk.init n h1 h8 N.C (fun i hi => ?_)
  obtain ⟨x, hx⟩ : ∃ x, N.cps[i]? = some x := ⟨N.cps[i]'(by omega), by simp⟩
  rw [NS.C_at hx, hS i x hx]
  rfl

/-- How great a net has become behind so many acts. -/
structure FitN (N : NS) (i : Nat) : Prop where
  cnt : N.wr.length + N.de.length ≤ i
  air : N.air.length ≤ 1000 * i

theorem FitN.next {N N' : NS} {i : Nat} (h : FitN N i) (hn : NextN N N') : FitN N' (i + 1) := ⟨by have := h.cnt; have := hn.cnt; omega, by have := h.air; have := hn.air; omega⟩

set_option maxRecDepth 100000 in
set_option maxHeartbeats 4000000 in
theorem agreed_k (c : Int) (hc1 : -9223372036854775808 ≤ c) (hc2 : c ≤ 9223372036854775807) (a : Option Addr) (len cap : Nat) (hlen : len ≤ 9223372036854775807) (w : World)
    (hs : ∀ i, i < len → ∃ b off k C A B, a = some ⟨b, off, none⟩ ∧ b < w.heap.size ∧ ActK w b off i k C A B) :
    Calls Tryz.prog 7 #[.int .i64 c, .slice a len cap] w fun e w' => e = .returned (.bool true) ∧ Below w.heap.size w w' := by
  have HW := hide (worksK w)
  have hp3 := pkK_lt c (n := 3) (by omega)
  have HP := hide (fun w => pickK c 3 (by omega) (by omega) hc1 hc2 w)
  generalize pkK c 3 = q at hp3 HP
  have e3 : ((3 : Nat) : Int) = 3 := rfl
  rw [e3] at HP
  obtain ⟨n, hn⟩ : ∃ n : Nat, 2 + (q : Int) = (n : Int) := ⟨2 + q, by omega⟩
  have hn4 : 2 ≤ n ∧ n ≤ 4 := by omega
  have HO := hide (fun w => openedK n (by omega) (by omega) w)
  have HS := hide hs
  clear hs e3
  go_enter Tryz.func7, Tryz.ntmps7
  go_wp2_with fail
  refine HW.out.mono ?_
  rintro e w1 ⟨rfl, hB1⟩
  go_wp2_with (go_at_call 20; refine (HP.out _).mono ?_; rintro e w' ⟨rfl, hw⟩; rw [hw]; clear hw w')
  refine (HO.out w1).mono ?_
  rintro e w2 ⟨nb, rfl, N0, hN0, hl0, hS0, ha0, hw0, hd0, hB2⟩
  have hNI0 := NI.new (by omega) (by omega) hN0 hl0 hS0 ha0 hw0 hd0
  have hfit0 : FitN N0 0 := ⟨by rw [hw0, hd0]; simp, by rw [ha0]; simp⟩
  obtain ⟨base, hbase⟩ : ∃ base, w1.heap.size = base := ⟨_, rfl⟩
  rw [hbase] at hNI0 hB2
  have hwb : w.heap.size ≤ base := by rw [← hbase]; exact hB1.size
  have hb2 : base ≤ w2.heap.size := by rw [← hbase]; exact hB2.size
  have HB1 := hide hB1
  have HBS := hide hbase
  clear hN0 hl0 hS0 ha0 hw0 hd0 HW HP HO hB1 hbase hn
  go_wp2_with fail
  go_loopg [7, 8, 9] 80 (fun gk s7 _s8 _s9 wr => ∃ (i : Nat) (N : NS), s7 = .int .i64 i ∧ i ≤ len ∧ i ≤ 80 ∧ gk = 80 - i ∧ FitN N i ∧ NI base nb N n wr ∧ Below base w1 wr)
  case atStart => exact ⟨0, N0, rfl, by omega, by omega, rfl, hfit0, hNI0, hB2⟩
  case round =>
    clear hfit0 hNI0 hB2
    obtain ⟨i, N, rfl, hil, hi80, hgk, hft, hNI, hB⟩ := hrel
    have hbr : base ≤ wr.heap.size := by rw [← HBS.out]; exact hB.size
    have f1 := hft.cnt
    have f2 := hft.air
    by_cases hlt : i < len ∧ i < 80
    · obtain ⟨hlt, hl80⟩ := hlt
      have hli : (i : Int) < (len : Int) := by omega
      have hli8 : (i : Int) < 80 := by omega
      obtain ⟨b, off, k, C, A, B, hae, hbw, d0, d1, d2, d3, rk, rC, rA, rB⟩ := HS.out i hlt
      have kc : ∀ (o : Nat) (v : Value), w.cell? ⟨b, o, none⟩ = some v → wr.cell? ⟨b, o, none⟩ = some v := fun o v hv => (hB.cell (p := ⟨b, o, none⟩) (show b < base by omega)).trans ((HB1.out.cell (p := ⟨b, o, none⟩) hbw).trans hv)
      have r0 := kc _ _ d0
      have r1 := kc _ _ d1
      have r2 := kc _ _ d2
      have r3 := kc _ _ d3
      have HA := hide (actK base nb n N k C A B wr hNI hbr (by omega) (by omega) rk.1 rk.2 rC.1 rC.2 rA.1 rA.2 rB.1 rB.2)
      clear d0 d1 d2 d3 kc HS hNI
      subst hae
      go_wp2_with fail
      refine HA.out.mono ?_
      rintro e w3 ⟨rfl, N', h3, hn3, hB3⟩
      have hft3 := hft.next hn3
      have hb3 : base ≤ w3.heap.size := Nat.le_trans hbr hB3.size
      have f3 := hft3.cnt
      have HG := hide (agreesK base nb n N' w3 h3 hb3 (by omega))
      clear h3 r0 r1 r2 r3 HA
      go_wp2_with fail
      refine HG.out.mono ?_
      rintro e w4 ⟨rfl, h4, hB4⟩
      go_wp2_with fail
      go_roundg (80 - (i + 1))
      case measure => omega
      case rel => exact ⟨i + 1, N', by go_num, by omega, by omega, rfl, hft3, h4, (hB.trans hB3).trans hB4⟩
    · have hBf : Below w.heap.size w wr := HB1.out.trans (hB.mono hwb)
      clear hNI HS
      by_cases hl : i < len
      · have hli : (i : Int) < (len : Int) := by omega
        have hli8 : ¬ (i : Int) < 80 := by omega
        go_wp2_with fail
        go_ret
        exact ⟨rfl, hBf⟩
      · have hli : ¬ (i : Int) < (len : Int) := by omega
        go_wp2_with fail
        go_ret
        exact ⟨rfl, hBf⟩

end Go.Proofs.YtachmkhbbbmioaaGreat

import Derived.Test.YtachmkhbbbmioaaGreatNetNX
namespace Go.Proofs.YtachmkhbbbmioaaGreat
open Go.RowKit Go.Shelf

/-- An insert, as an operation that is applied. -/
theorem ins_step {S : CS} (hI : Inv S) (hz : ∀ j, S.n ≤ j → S.cl j = 0) (hf : S.cl (S.s - 1) < 100 ∧ S.g < 1099511627776) {A R : List El} (hL : S.L = A ++ R) {r : Int} (hr : Lib.validRune r = true) :
    Ok8 S.n (opIns S (lc A) (lk A) r) ∧ Inv { S with cl := bump S.cl (S.s - 1), g := S.g + 1, L := A ++ behind (newEl S r hr) R, ops := opIns S (lc A) (lk A) r :: S.ops } := by
  have hs1 := hI.good.s1
  have hsn := hI.good.sn
  have hg0 := hI.good.g0
  have hn8 := hI.good.n8
  have hsc := valid_sc hr
  obtain ⟨x, hx⟩ : ∃ x, opIns S (lc A) (lk A) r = x := ⟨_, rfl⟩
  have x0 : x.o = (S.s : Int) := by rw [← hx]; rfl
  have x1 : x.num = S.cl (S.s - 1) + 1 := by rw [← hx]; rfl
  have x2 : x.c = S.g + 1 := by rw [← hx]; rfl
  have x3 : x.kind = 0 := by rw [← hx]; rfl
  have x4 : x.tc = lc A := by rw [← hx]; rfl
  have x5 : x.tk = lk A := by rw [← hx]; rfl
  have x6 : x.r = r := by rw [← hx]; rfl
  have x7 : x.q = S.cl := by rw [← hx]; rfl
  have eo : x.o.toNat - 1 = S.s - 1 := by omega
  have h0i := (hI.good.cl (S.s - 1) (by omega)).1
  have htgt : (x.tc = 0 ∧ x.tk = 0 ∧ x.kind = 0) ∨ (1 ≤ x.tc ∧ x.tc ≤ x.c - 1 ∧ 1 ≤ x.tk ∧ x.tk ≤ S.n) := by
    rw [x4, x5, x3, x2]
    rcases A.eq_nil_or_concat with rfl | ⟨B, y, rfl⟩
    · exact .inl ⟨rfl, rfl, rfl⟩
    · rw [List.concat_eq_append] at *
      obtain ⟨l1, l2, -, -⟩ := last_snoc B y
      have hy : y ∈ S.L := by rw [hL]; simp
      have m1 := hI.good.mark y hy
      have m2 := hI.ops.mkk y hy
      rw [l1, l2]
      right
      omega
  have ok : Ok8 S.n x := by
    refine ⟨by omega, by omega, by omega, by omega, htgt, fun _ => by rw [x6]; exact hsc, fun q => by omega, fun j hj => ?_, fun j hj => ?_, ?_⟩
    · rw [x7]; exact hI.good.cl j (by omega)
    · rw [x7]; exact hz j hj
    · rw [x7, eo, x1]; omega
  have rdy : RdyS S x := by
    refine ⟨by rw [eo, x1], fun j _ => by rw [x7]; exact Int.le_refl _, by rw [x4, x5]; exact hasM_cut hL, .inr ?_⟩
    rw [hasM_false]
    refine ⟨by omega, fun y hy q => ?_⟩
    have := (hI.good.mark y hy).2
    omega
  have e : applyS S x = { S with cl := bump S.cl (S.s - 1), g := S.g + 1, L := A ++ behind (newEl S r hr) R, ops := x :: S.ops } := by
    have e1 : applyL x S.L = A ++ behind (newEl S r hr) R := by
      rw [applyL_cut hI x3 (by rw [x6]; exact hsc) hL x4 x5]
      congr 2
      unfold OpR.el newEl
      congr 1
    unfold applyS
    rw [e1, eo, x2]
    congr 1
    omega
  rw [hx]
  refine ⟨ok, ?_⟩
  rw [← e]
  exact inv_apply hI ok rdy

theorem cut_all {L A R : List El} {p : Nat} (hv : ∀ e ∈ L, e.d = false) (h : CutIs L p A R) : A = L.take p ∧ R = L.drop p := by
  obtain ⟨hL, hA, -, -⟩ := h
  have : vis A = A := List.filter_eq_self.2 (fun e he => by rw [hv e (by rw [hL]; simp [he])]; rfl)
  rw [this] at hA
  subst hA
  rw [hL]
  simp

def insS (S : CS) (p : Nat) (r : Int) (hr : Lib.validRune r = true) : CS := { S with cl := bump S.cl (S.s - 1), g := S.g + 1, L := S.L.take p ++ behind (newEl S r hr) (S.L.drop p), ops := opIns S (lc (S.L.take p)) (lk (S.L.take p)) r :: S.ops }

theorem v97 : Lib.validRune 97 = true := by decide
theorem v98 : Lib.validRune 98 = true := by decide
theorem v99 : Lib.validRune 99 = true := by decide
theorem v120 : Lib.validRune 120 = true := by decide

def wA1 : CS := insS (newS 2 1) 0 97 v97
def wA2 : CS := insS wA1 1 99 v99
def wA3 : CS := insS wA2 1 98 v98
def wB1 : CS := insS (newS 2 2) 0 120 v120

theorem ins_inv {S : CS} (hI : Inv S) (hz : ∀ j, S.n ≤ j → S.cl j = 0) (hf : S.cl (S.s - 1) < 100 ∧ S.g < 1099511627776) (p : Nat) {r : Int} (hr : Lib.validRune r = true) : Inv (insS S p r hr) ∧ (∀ j, (insS S p r hr).n ≤ j → (insS S p r hr).cl j = 0) ∧ Ok8 S.n (opIns S (lc (S.L.take p)) (lk (S.L.take p)) r) := by
  have := ins_step hI hz hf (A := S.L.take p) (R := S.L.drop p) (List.take_append_drop _ _).symm hr
  refine ⟨this.2, fun j hj => ?_, this.1⟩
  show bump S.cl (S.s - 1) j = 0
  have hs1 := hI.good.s1
  have hsn := hI.good.sn
  have hj' : S.n ≤ j := hj
  rw [bump_other _ (by omega)]
  exact hz j hj

theorem new_inv {n s : Nat} (h1 : 1 ≤ s) (h2 : s ≤ n) (h8 : n ≤ 8) : Inv (newS n s) :=
  ⟨newS_good h1 h2 h8, ⟨by simp [newS], fun i _ k k1 k2 => by simp [newS] at k2; omega, by simp [newS], by simp [newS]⟩, ⟨by simp [newS], by simp [newS], by simp [newS]⟩, by simp [newS, sumcl], by simp [newS, sumcl], by simp [newS, Apart]⟩

theorem wA1_inv : Inv wA1 ∧ (∀ j, wA1.n ≤ j → wA1.cl j = 0) ∧ Ok8 2 (opIns (newS 2 1) (lc ((newS 2 1).L.take 0)) (lk ((newS 2 1).L.take 0)) 97) := ins_inv (new_inv (by omega) (by omega) (by omega)) (fun _ _ => rfl) (by decide) 0 v97
theorem wA2_inv : Inv wA2 ∧ (∀ j, wA2.n ≤ j → wA2.cl j = 0) ∧ Ok8 2 (opIns wA1 (lc (wA1.L.take 1)) (lk (wA1.L.take 1)) 99) := ins_inv wA1_inv.1 wA1_inv.2.1 (by decide) 1 v99
theorem wA3_inv : Inv wA3 ∧ (∀ j, wA3.n ≤ j → wA3.cl j = 0) ∧ Ok8 2 (opIns wA2 (lc (wA2.L.take 1)) (lk (wA2.L.take 1)) 98) := ins_inv wA2_inv.1 wA2_inv.2.1 (by decide) 1 v98
theorem wB1_inv : Inv wB1 ∧ (∀ j, wB1.n ≤ j → wB1.cl j = 0) ∧ Ok8 2 (opIns (newS 2 2) (lc ((newS 2 2).L.take 0)) (lk ((newS 2 2).L.take 0)) 120) := ins_inv (new_inv (by omega) (by omega) (by omega)) (fun _ _ => rfl) (by decide) 0 v120

def wo1 : OpR := opIns (newS 2 1) (lc ((newS 2 1).L.take 0)) (lk ((newS 2 1).L.take 0)) 97
def wo2 : OpR := opIns wA1 (lc (wA1.L.take 1)) (lk (wA1.L.take 1)) 99
def wo3 : OpR := opIns wA2 (lc (wA2.L.take 1)) (lk (wA2.L.take 1)) 98

theorem w_miss : miss wA3 wB1.cl = [wo1, wo2, wo3] := by rfl
theorem w_tx : tx wA3 = [97, 98, 99] := by rfl

theorem takes_ready {S : CS} (hw : S.wt = []) {x : OpR} (hr : RdyS S x) : takesS S x = applyS S x := by
  unfold takesS
  have hk : ¬ knownS S x := by
    rintro (⟨y, hy, -⟩ | q)
    · rw [hw] at hy; cases hy
    · have := hr.1; omega
  rw [if_neg hk, if_pos hr, hw]
  rfl

theorem rdy_of {S : CS} {x : OpR} (h1 : x.num = S.cl (x.o.toNat - 1) + 1) (h2 : x.q 0 ≤ S.cl 0 ∧ x.q 1 ≤ S.cl 1 ∧ x.q 2 ≤ S.cl 2 ∧ x.q 3 ≤ S.cl 3 ∧ x.q 4 ≤ S.cl 4 ∧ x.q 5 ≤ S.cl 5 ∧ x.q 6 ≤ S.cl 6 ∧ x.q 7 ≤ S.cl 7) (h3 : hasM x.tc x.tk S.L = true) (h4 : hasM x.c x.o S.L = false) : RdyS S x := by
  refine ⟨h1, fun i hi => ?_, h3, .inr h4⟩
  have : i = 0 ∨ i = 1 ∨ i = 2 ∨ i = 3 ∨ i = 4 ∨ i = 5 ∨ i = 6 ∨ i = 7 := by omega
  rcases this with rfl | rfl | rfl | rfl | rfl | rfl | rfl | rfl
  · exact h2.1
  · exact h2.2.1
  · exact h2.2.2.1
  · exact h2.2.2.2.1
  · exact h2.2.2.2.2.1
  · exact h2.2.2.2.2.2.1
  · exact h2.2.2.2.2.2.2.1
  · exact h2.2.2.2.2.2.2.2

theorem w_takes : takesAll wB1 [wo1, wo2, wo3] = applyS (applyS (applyS wB1 wo1) wo2) wo3 := by
  have r1 : RdyS wB1 wo1 := rdy_of (by decide) (by decide) (by decide) (by decide)
  have r2 : RdyS (applyS wB1 wo1) wo2 := rdy_of (by decide) (by decide) (by decide) (by decide)
  have r3 : RdyS (applyS (applyS wB1 wo1) wo2) wo3 := rdy_of (by decide) (by decide) (by decide) (by decide)
  show takesS (takesS (takesS wB1 wo1) wo2) wo3 = _
  rw [takes_ready rfl r1, takes_ready rfl r2, takes_ready rfl r3]

theorem w_end : tx (applyS (applyS (applyS wB1 wo1) wo2) wo3) = [120, 97, 98, 99] := by rfl

theorem packs_one {n : Nat} : ∀ (l sm : List OpR), (sm ++ l) ≠ [] → ((sm ++ l).flatMap (OpR.bytes n)).length ≤ 114 → packs n sm l = [sm ++ l]
  | [], sm, h, _ => by
    unfold packs
    rw [if_neg (fun q => h (by simpa using List.eq_nil_of_length_eq_zero q))]
    simp
  | x :: l, sm, h, hl => by
    have e : sm ++ x :: l = (sm ++ [x]) ++ l := by simp
    rw [packs_cons, if_neg, e]
    · exact packs_one l (sm ++ [x]) (by simp) (by rw [← e]; exact hl)
    · rw [List.flatMap_append, List.flatMap_cons, List.length_append, List.length_append] at hl
      omega

theorem vbs_ones (l : List Int) (h : ∀ x ∈ l, 0 ≤ x ∧ x < 128) : (vbs l).length = l.length := by
  induction l with
  | nil => rfl
  | cons x l ih =>
    simp only [vbs, List.length_append, List.length_cons]
    rw [vb_one (h x (by simp)), ih (fun y hy => h y (by simp [hy]))]; omega

theorem w_bytes {x : OpR} (h : ∀ y ∈ x.nums ++ clk 2 x.q, 0 ≤ y ∧ y < 128) (hl : (x.nums ++ clk 2 x.q).length = 9) : (x.bytes 2).length = 9 := by
  unfold OpR.bytes
  rw [List.length_append, vbs_ones _ (fun y hy => h y (by simp [hy])), vbs_ones _ (fun y hy => h y (by simp [hy])), ← List.length_append]
  exact hl

theorem w_ans : answers 2 (miss wA3 wB1.cl) = [sealB (66 :: bEnc 2 [wo1, wo2, wo3])] ∧ bOk 2 [wo1, wo2, wo3] ∧ (sealB (66 :: bEnc 2 [wo1, wo2, wo3])).length ≤ 120 := by
  have b1 : (wo1.bytes 2).length = 9 := w_bytes (by decide) (by decide)
  have b2 : (wo2.bytes 2).length = 9 := w_bytes (by decide) (by decide)
  have b3 : (wo3.bytes 2).length = 9 := w_bytes (by decide) (by decide)
  have hb : ([wo1, wo2, wo3].flatMap (OpR.bytes 2)).length ≤ 114 := by
    simp only [List.flatMap_cons, List.flatMap_nil, List.append_nil, List.length_append]
    omega
  have hok : ∀ x ∈ [wo1, wo2, wo3], Ok8 2 x := fun x hx => by
    simp only [List.mem_cons, List.not_mem_nil, or_false] at hx
    rcases hx with rfl | rfl | rfl
    · exact wA1_inv.2.2
    · exact wA2_inv.2.2
    · exact wA3_inv.2.2
  obtain ⟨p1, p2⟩ := pack_ok (by simp) hb hok
  rw [batch_enc] at p2
  refine ⟨?_, p1, p2⟩
  unfold answers
  rw [w_miss, packs_one _ [] (by simp) (by simpa using hb)]
  simp [batch_enc]

end Go.Proofs.YtachmkhbbbmioaaGreat

namespace Go.Proofs.YtachmkhbbbmioaaGreat
open Go.RowKit Go.Shelf

theorem qInsV (x : Cq) (p : Nat) (r : Int) (hp : p ≤ (tx x.S).length) (hr : Lib.validRune r = true) (hf : decide (100 ≤ x.S.cl (x.S.s - 1) ∨ 1099511627776 ≤ x.S.g) = false) (hv : ∀ e ∈ x.S.L, e.d = false) (w : World) (h : x.At w) (hI : Inv x.S) :
    Calls Tryz.prog 54 #[x.ptr, .int .i64 p, .int .i32 r] w fun e w1 => e = .returned (.int .i64 0) ∧ Cq.At { x with S := insS x.S p r hr } w1 ∧ Fr x.own w w1 := by
  refine (qIns x p r hp hr hf w h hI).mono ?_
  rintro e w1 ⟨rfl, A, R, hC, hx, hF⟩
  obtain ⟨rfl, rfl⟩ := cut_all hv hC
  exact ⟨rfl, hx, hF⟩

theorem w_abc : txtR (tx wA3) = [97, 98, 99] := by rw [w_tx]; rfl
theorem w_xabc : txtR (tx (takesAll wB1 [wo1, wo2, wo3])) = [120, 97, 98, 99] := by rw [w_takes, w_end]; rfl

/-- What was done to one copy leaves the other. -/
theorem Cq.At.other {x y : Cq} {w w' : World} (h : y.At w) (hd : ∀ k ∈ y.own, k ∉ x.own) (hF : Fr x.own w w') : y.At w' := h.kept (fun k hk => hF.block k (h.lt k hk) (hd k hk))

set_option maxRecDepth 100000 in
set_option maxHeartbeats 4000000 in
theorem worksK (w : World) : Calls Tryz.prog 18 #[] w fun e w' => e = .returned (.bool true) ∧ Below w.heap.size w w' := by
  have HO := hide (openedK 2 (by omega) (by omega) w)
  have e2 : ((2 : Nat) : Int) = 2 := rfl
  rw [e2] at HO
  go_enter Tryz.func18, Tryz.ntmps18
  go_wp2_with fail
  refine HO.out.mono ?_
  rintro e w1 ⟨nb, rfl, N, hN, hlen, hS, -, -, -, hB1⟩
  obtain ⟨a0, b0, hab⟩ : ∃ a b, N.cps = [a, b] := by
    match N.cps, hlen with
    | [a, b], _ => exact ⟨a, b, rfl⟩
  have ha0 : N.cps[0]? = some a0 := by rw [hab]; rfl
  have hb0 : N.cps[1]? = some b0 := by rw [hab]; rfl
  obtain ⟨gl, cl, hvl⟩ := hN.vlv (by omega)
  rw [hlen] at hvl
  obtain ⟨c0, ci⟩ := hN.ptrs hvl
  have ca := ci 0 a0 ha0
  have cb := ci 1 b0 hb0
  have haA := hN.cps 0 a0 ha0
  have hbA := hN.cps 1 b0 hb0
  have hd1 := (hN.apart ha0).2.1 1 b0 hb0 (by omega)
  have hd2 := (hN.apart hb0).2.1 0 a0 ha0 (by omega)
  have hba := (hN.apart ha0).2.2
  have hbb := (hN.apart hb0).2.2
  have hSa := hS 0 a0 ha0
  have hSb := hS 1 b0 hb0
  obtain ⟨acb, asb, ama, amp, alb, amb, aS⟩ := a0
  obtain ⟨bcb, bsb, bma, bmp, blb, bmb, bS⟩ := b0
  simp only at hSa hSb
  subst hSa hSb
  have hbs : w.heap.size ≤ w1.heap.size := hB1.size
  clear hN hlen hS ci hab ha0 hb0 hvl HO
  have HA1 := hide (fun w h => qInsV ⟨acb, asb, ama, amp, alb, amb, newS 2 1⟩ 0 97 (show 0 ≤ (tx (newS 2 1)).length by decide) v97 (show decide (100 ≤ (newS 2 1).cl ((newS 2 1).s - 1) ∨ 1099511627776 ≤ (newS 2 1).g) = false by decide) (show ∀ e ∈ (newS 2 1).L, e.d = false by decide) w h (new_inv (by omega) (by omega) (by omega)))
  have HA2 := hide (fun w h => qInsV ⟨acb, asb, ama, amp, alb, amb, wA1⟩ 1 99 (show 1 ≤ (tx (wA1)).length by decide) v99 (show decide (100 ≤ (wA1).cl ((wA1).s - 1) ∨ 1099511627776 ≤ (wA1).g) = false by decide) (show ∀ e ∈ (wA1).L, e.d = false by decide) w h wA1_inv.1)
  have HA3 := hide (fun w h => qInsV ⟨acb, asb, ama, amp, alb, amb, wA2⟩ 1 98 (show 1 ≤ (tx (wA2)).length by decide) v98 (show decide (100 ≤ (wA2).cl ((wA2).s - 1) ∨ 1099511627776 ≤ (wA2).g) = false by decide) (show ∀ e ∈ (wA2).L, e.d = false by decide) w h wA2_inv.1)
  have HB1 := hide (fun w h => qInsV ⟨bcb, bsb, bma, bmp, blb, bmb, newS 2 2⟩ 0 120 (show 0 ≤ (tx (newS 2 2)).length by decide) v120 (show decide (100 ≤ (newS 2 2).cl ((newS 2 2).s - 1) ∨ 1099511627776 ≤ (newS 2 2).g) = false by decide) (show ∀ e ∈ (newS 2 2).L, e.d = false by decide) w h (new_inv (by omega) (by omega) (by omega)))
  have HT := hide (fun w h => qText ⟨acb, asb, ama, amp, alb, amb, wA3⟩ w h wA3_inv.1)
  have HK := hide (fun w h => qTick ⟨bcb, bsb, bma, bmp, blb, bmb, wB1⟩ w h wB1_inv.1)
  have HD := hide (fun w h => qHandDig ⟨acb, asb, ama, amp, alb, amb, wA3⟩ 2 (by decide) (show (2 : Int) ≤ (wA3.n : Int) by decide) wB1.cl (fun i hi => wB1_inv.1.good.cl i (Nat.lt_of_lt_of_le hi (show wA3.n ≤ 8 by decide))) w h wA3_inv.1)
  have HBt := hide (fun w h => qHandBat ⟨bcb, bsb, bma, bmp, blb, bmb, wB1⟩ [wo1, wo2, wo3] w_ans.2.1 w_ans.2.2 w h wB1_inv.1)
  have HTB := hide (fun w h => qText ⟨bcb, bsb, bma, bmp, blb, bmb, takesAll wB1 [wo1, wo2, wo3]⟩ w h (inv_takesAll _ wB1_inv.1 w_ans.2.1.2))
  simp only [w_abc] at HT
  simp only [w_xabc] at HTB
  have eD : answers wA3.n (miss wA3 wB1.cl) = [sealB (66 :: bEnc 2 [wo1, wo2, wo3])] := w_ans.1
  simp only [eD] at HD
  generalize hFF : sealB (66 :: bEnc 2 [wo1, wo2, wo3]) = FF at HD
  have hFF' : sealB (66 :: bEnc wB1.n [wo1, wo2, wo3]) = FF := hFF
  simp only [hFF'] at HBt
  have z0 : ((0 : Nat) : Int) = 0 := rfl
  have z1 : ((1 : Nat) : Int) = 1 := rfl
  simp only [z0, z1] at HA1 HA2 HA3 HB1
  have hDD : digest wA3.n 2 wB1.cl = digest wB1.n (wB1.s : Int) wB1.cl := rfl
  simp only [hDD] at HD
  generalize digest wB1.n (wB1.s : Int) wB1.cl = DD at HD HK
  clear eD hFF hFF' z0 z1 e2 hDD
  go_wp2_with fail
  refine (HA1.out w1 haA).mono ?_
  rintro e w2 ⟨rfl, ha2, hF2⟩
  have ha2' : Cq.At ⟨acb, asb, ama, amp, alb, amb, wA1⟩ w2 := ha2
  go_wp2_with fail
  refine (HA2.out w2 ha2').mono ?_
  rintro e w3 ⟨rfl, ha3, hF3⟩
  have ha3' : Cq.At ⟨acb, asb, ama, amp, alb, amb, wA2⟩ w3 := ha3
  go_wp2_with fail
  refine (HA3.out w3 ha3').mono ?_
  rintro e w4 ⟨rfl, ha4, hF4⟩
  have ha4' : Cq.At ⟨acb, asb, ama, amp, alb, amb, wA3⟩ w4 := ha4
  have hFa4 := (hF2.trans hF3).trans hF4
  have hb4 := hbA.other hd1 hFa4
  go_wp2_with fail
  refine (HB1.out w4 hb4).mono ?_
  rintro e w5 ⟨rfl, hb5, hF5⟩
  have hb5' : Cq.At ⟨bcb, bsb, bma, bmp, blb, bmb, wB1⟩ w5 := hb5
  have ha5 := ha4'.other hd2 hF5
  go_wp2_with fail
  refine (HT.out w5 ha5).mono ?_
  rintro e w6 ⟨rfl, ha6, hF6⟩
  have hb6 := hb5'.other hd1 hF6
  go_wp2_with fail
  refine (HK.out w6 hb6).mono ?_
  rintro e w7 ⟨rfl, hb7, hF7⟩
  have ha7 := ha6.other hd2 hF7
  go_wp2_with fail
  refine (HD.out w7 ha7).mono ?_
  rintro e w8 ⟨v, rfl, hv, -, ha8, hF8⟩
  have hb8 := hb7.other hd1 hF8
  obtain ⟨gv, cv, cur, hve, -, hbv, hcv⟩ := hv.cell (i := 0) (x := [str FF]) (by simp [strRow])
  have hlv : (strRow [FF]).length = 1 := rfl
  rw [hlv] at hve
  subst hve
  have r0 : w8.cell? ⟨gv, 0, none⟩ = some (str FF) := (cell_blk hbv _).trans (by simpa using hcv 0 _ rfl)
  clear hcv hbv hv
  have hfin : ∀ (w9 : World), Fr (Cq.own ⟨bcb, bsb, bma, bmp, blb, bmb, wB1⟩) w8 w9 → Below w.heap.size w w9 := fun w9 hF9 => by
    have A1 := hFa4.toBelow (B := w.heap.size) hbs hba
    have s4 := Nat.le_trans hbs hFa4.size
    have A2 := hF5.toBelow (B := w.heap.size) s4 hbb
    have s5 := Nat.le_trans s4 hF5.size
    have A3 := hF6.toBelow (B := w.heap.size) s5 hba
    have s6 := Nat.le_trans s5 hF6.size
    have A4 := hF7.toBelow (B := w.heap.size) s6 hbb
    have s7 := Nat.le_trans s6 hF7.size
    have A5 := hF8.toBelow (B := w.heap.size) s7 hba
    have s8 := Nat.le_trans s7 hF8.size
    have A6 := hF9.toBelow (B := w.heap.size) s8 hbb
    exact ((((((hB1.trans A1).trans A2).trans A3).trans A4).trans A5).trans A6)
  have HFIN := hide hfin
  clear hfin hF2 hF3 hF4 hF5 hF6 hF7 hF8 hFa4 ha2 ha2' ha3 ha3' ha4 ha4' ha5 ha6 ha7 ha8 hb4 hb5 hb5' hb6 hb7 haA hbA hd1 hd2 hba hbb hB1 c0 ca cb HA1 HA2 HA3 HB1 HT HK HD
  go_wp2_with fail
  refine (HBt.out w8 hb8).mono ?_
  rintro e w9 ⟨rfl, hb9, hF9⟩
  go_wp2_with fail
  refine (HTB.out w9 hb9).mono ?_
  rintro e w10 ⟨rfl, -, hF10⟩
  have hB10 := HFIN.out _ (hF9.trans hF10)
  go_wp2_with fail
  go_ret
  exact ⟨rfl, hB10⟩

end Go.Proofs.YtachmkhbbbmioaaGreat

namespace Go.Proofs.YtachmkhbbbmioaaGreat
open Go.RowKit Go.Shelf

/-- An act in memory. -/
def ActK (w : World) (b off i : Nat) (k C A B : Int) : Prop :=
  w.cell? ⟨b, off + i * 4, none⟩ = some (.int .i64 k) ∧ w.cell? ⟨b, off + i * 4 + 1, none⟩ = some (.int .i64 C) ∧ w.cell? ⟨b, off + i * 4 + 2, none⟩ = some (.int .i64 A) ∧ w.cell? ⟨b, off + i * 4 + 3, none⟩ = some (.int .i64 B) ∧
    (-9223372036854775808 ≤ k ∧ k ≤ 9223372036854775807) ∧ (-9223372036854775808 ≤ C ∧ C ≤ 9223372036854775807) ∧ (-9223372036854775808 ≤ A ∧ A ≤ 9223372036854775807) ∧ (-9223372036854775808 ≤ B ∧ B ≤ 9223372036854775807)

/-- A net that has just been opened. -/
theorem NI.new {base nb n : Nat} {N : NS} {w : World} (h1 : 1 ≤ n) (h8 : n ≤ 8) (h : NAt base nb N w) (hl : N.cps.length = n) (hS : ∀ (j : Nat) (x : Cq), N.cps[j]? = some x → x.S = newS n (j + 1)) (ha : N.air = []) (hw : N.wr = []) (hd : N.de = []) : NI base nb N n w := by
  refine ⟨h, hl, ?_, by rw [ha]; simp⟩
  rw [hw, hd]
  refine NetOk.init n h1 h8 N.C (fun i hi => ?_)
  obtain ⟨x, hx⟩ : ∃ x, N.cps[i]? = some x := ⟨N.cps[i]'(by omega), by simp⟩
  rw [NS.C_at hx, hS i x hx]
  rfl

/-- How great a net has become behind so many acts. -/
structure FitN (N : NS) (i : Nat) : Prop where
  cnt : N.wr.length + N.de.length ≤ i
  air : N.air.length ≤ 1000 * i

theorem FitN.next {N N' : NS} {i : Nat} (h : FitN N i) (hn : NextN N N') : FitN N' (i + 1) := ⟨by have := h.cnt; have := hn.cnt; omega, by have := h.air; have := hn.air; omega⟩

set_option maxRecDepth 100000 in
set_option maxHeartbeats 4000000 in
theorem agreed_k (c : Int) (hc1 : -9223372036854775808 ≤ c) (hc2 : c ≤ 9223372036854775807) (a : Option Addr) (len cap : Nat) (hlen : len ≤ 9223372036854775807) (w : World)
    (hs : ∀ i, i < len → ∃ b off k C A B, a = some ⟨b, off, none⟩ ∧ b < w.heap.size ∧ ActK w b off i k C A B) :
    Calls Tryz.prog 7 #[.int .i64 c, .slice a len cap] w fun e w' => e = .returned (.bool true) ∧ Below w.heap.size w w' := by
  have HW := hide (worksK w)
  have hp3 := pkK_lt c (n := 3) (by omega)
  have HP := hide (fun w => pickK c 3 (by omega) (by omega) hc1 hc2 w)
  generalize pkK c 3 = q at hp3 HP
  have e3 : ((3 : Nat) : Int) = 3 := rfl
  rw [e3] at HP
  obtain ⟨n, hn⟩ : ∃ n : Nat, 2 + (q : Int) = (n : Int) := ⟨2 + q, by omega⟩
  have hn4 : 2 ≤ n ∧ n ≤ 4 := by omega
  have HO := hide (fun w => openedK n (by omega) (by omega) w)
  have HS := hide hs
  clear hs e3
  go_enter Tryz.func7, Tryz.ntmps7
  go_wp2_with fail
  refine HW.out.mono ?_
  rintro e w1 ⟨rfl, hB1⟩
  go_wp2_with (go_at_call 20; refine (HP.out _).mono ?_; rintro e w' ⟨rfl, hw⟩; rw [hw]; clear hw w')
  refine (HO.out w1).mono ?_
  rintro e w2 ⟨nb, rfl, N0, hN0, hl0, hS0, ha0, hw0, hd0, hB2⟩
  have hNI0 := NI.new (by omega) (by omega) hN0 hl0 hS0 ha0 hw0 hd0
  have hfit0 : FitN N0 0 := ⟨by rw [hw0, hd0]; simp, by rw [ha0]; simp⟩
  obtain ⟨base, hbase⟩ : ∃ base, w1.heap.size = base := ⟨_, rfl⟩
  rw [hbase] at hNI0 hB2
  have hwb : w.heap.size ≤ base := by rw [← hbase]; exact hB1.size
  have hb2 : base ≤ w2.heap.size := by rw [← hbase]; exact hB2.size
  have HB1 := hide hB1
  have HBS := hide hbase
  clear hN0 hl0 hS0 ha0 hw0 hd0 HW HP HO hB1 hbase hn
  go_wp2_with fail
  go_loopg [7, 8, 9] 80 (fun gk s7 _s8 _s9 wr => ∃ (i : Nat) (N : NS), s7 = .int .i64 i ∧ i ≤ len ∧ i ≤ 80 ∧ gk = 80 - i ∧ FitN N i ∧ NI base nb N n wr ∧ Below base w1 wr)
  case atStart => exact ⟨0, N0, rfl, by omega, by omega, rfl, hfit0, hNI0, hB2⟩
  case round =>
    clear hfit0 hNI0 hB2
    obtain ⟨i, N, rfl, hil, hi80, hgk, hft, hNI, hB⟩ := hrel
    have hbr : base ≤ wr.heap.size := by rw [← HBS.out]; exact hB.size
    have f1 := hft.cnt
    have f2 := hft.air
    by_cases hlt : i < len ∧ i < 80
    · obtain ⟨hlt, hl80⟩ := hlt
      have hli : (i : Int) < (len : Int) := by omega
      have hli8 : (i : Int) < 80 := by omega
      obtain ⟨b, off, k, C, A, B, hae, hbw, d0, d1, d2, d3, rk, rC, rA, rB⟩ := HS.out i hlt
      have kc : ∀ (o : Nat) (v : Value), w.cell? ⟨b, o, none⟩ = some v → wr.cell? ⟨b, o, none⟩ = some v := fun o v hv => (hB.cell (p := ⟨b, o, none⟩) (show b < base by omega)).trans ((HB1.out.cell (p := ⟨b, o, none⟩) hbw).trans hv)
      have r0 := kc _ _ d0
      have r1 := kc _ _ d1
      have r2 := kc _ _ d2
      have r3 := kc _ _ d3
      have HA := hide (actK base nb n N k C A B wr hNI hbr (by omega) (by omega) rk.1 rk.2 rC.1 rC.2 rA.1 rA.2 rB.1 rB.2)
      clear d0 d1 d2 d3 kc HS hNI
      subst hae
      go_wp2_with fail
      refine HA.out.mono ?_
      rintro e w3 ⟨rfl, N', h3, hn3, hB3⟩
      have hft3 := hft.next hn3
      have hb3 : base ≤ w3.heap.size := Nat.le_trans hbr hB3.size
      have f3 := hft3.cnt
      have HG := hide (agreesK base nb n N' w3 h3 hb3 (by omega))
      clear h3 r0 r1 r2 r3 HA
      go_wp2_with fail
      refine HG.out.mono ?_
      rintro e w4 ⟨rfl, h4, hB4⟩
      go_wp2_with fail
      go_roundg (80 - (i + 1))
      case measure => omega
      case rel => exact ⟨i + 1, N', by go_num, by omega, by omega, rfl, hft3, h4, (hB.trans hB3).trans hB4⟩
    · have hBf : Below w.heap.size w wr := HB1.out.trans (hB.mono hwb)
      clear hNI HS
      by_cases hl : i < len
      · have hli : (i : Int) < (len : Int) := by omega
        have hli8 : ¬ (i : Int) < 80 := by omega
        go_wp2_with fail
        go_ret
        exact ⟨rfl, hBf⟩
      · have hli : ¬ (i : Int) < (len : Int) := by omega
        go_wp2_with fail
        go_ret
        exact ⟨rfl, hBf⟩

end Go.Proofs.YtachmkhbbbmioaaGreat

namespace Go.Proofs.YtachmkhbbbmioaaGreat
open Go.RowKit Go.Shelf

/-- All that a net holds lies below H. -/
structure NLt (H nb : Nat) (N : NS) : Prop where
  own : ∀ k ∈ N.own nb, k < H
  cps : ∀ (j : Nat) (x : Cq), N.cps[j]? = some x → ∀ k ∈ x.own, k < H

theorem NAt.nlt {base nb : Nat} {N : NS} {w : World} (h : NAt base nb N w) : NLt w.heap.size nb N := ⟨h.lo, fun j x hj => (h.cps j x hj).lt⟩
theorem NLt.mono {H H' nb : Nat} {N : NS} (h : NLt H nb N) (hh : H ≤ H') : NLt H' nb N := ⟨fun k hk => Nat.lt_of_lt_of_le (h.own k hk) hh, fun j x hj k hk => Nat.lt_of_lt_of_le (h.cps j x hj k hk) hh⟩
theorem NLt.handed {H nb : Nat} {N N' : NS} (h : NLt H nb N) (hd : Handed' N N') : NLt H nb N' := by
  refine ⟨fun k hk => h.own k ?_, fun j x hj k hk => ?_⟩
  · unfold NS.own at hk ⊢
    rw [hd.vl, hd.va, hd.vw, hd.vd] at hk
    exact hk
  · have hl := (List.getElem?_eq_some_iff.1 hj).1
    rw [hd.cps] at hl
    obtain ⟨y, hy⟩ : ∃ y, N.cps[j]? = some y := ⟨N.cps[j], by simp⟩
    obtain ⟨S, hS⟩ := hd.own j y hy
    rw [hj] at hS
    cases hS
    exact h.cps j y hy k hk

theorem NAt.keptH {base nb H : Nat} {N : NS} {w w' : World} (h : NAt base nb N w) (hl : NLt H nb N) (e : ∀ k, k < H → w'.heap[k]? = w.heap[k]?) : NAt base nb N w' :=
  ⟨(e nb (hl.own nb (by simp [NS.own]))).trans h.cp, h.l.kept (fun g hg => e g (hl.own g (by simp [NS.own, hg]))), h.ar.kept (fun g hg => e g (hl.own g (by simp [NS.own, hg]))), h.wr.kept (fun g hg => e g (hl.own g (by simp [NS.own, hg]))), h.de.kept (fun g hg => e g (hl.own g (by simp [NS.own, hg]))), fun j x hj => (h.cps j x hj).kept (fun k hk => e k (hl.cps j x hj k hk)), h.wd, h.ow⟩

theorem NI.keptH {base nb n H : Nat} {N : NS} {w w' : World} (h : NI base nb N n w) (hl : NLt H nb N) (e : ∀ k, k < H → w'.heap[k]? = w.heap[k]?) : NI base nb N n w' := ⟨h.at_.keptH hl e, h.len, h.ok, h.air⟩

end Go.Proofs.YtachmkhbbbmioaaGreat

namespace Go.Proofs.YtachmkhbbbmioaaGreat
open Go.RowKit Go.Shelf

/-- What rounds do to a net: the copies know of more, and nothing new was made. -/
structure Grow (n : Nat) (N N' : NS) : Prop where
  hd : Handed' N N'
  gm : ∀ z, Gm n N'.C z ↔ Gm n N.C z
  cl : ∀ i, i < n → ∀ k, (N.C i).cl k ≤ (N'.C i).cl k

theorem Handed'.trans {A B C : NS} (h : Handed' A B) (k : Handed' B C) : Handed' A C :=
  ⟨k.vl.trans h.vl, k.va.trans h.va, k.vw.trans h.vw, k.vd.trans h.vd, k.air.trans h.air, k.wr.trans h.wr, k.de.trans h.de, k.cps.trans h.cps, fun i y hi => by
    obtain ⟨S, hS⟩ := h.own i y hi
    obtain ⟨T, hT⟩ := k.own i _ hS
    exact ⟨T, hT⟩⟩

theorem Grow.refl (n : Nat) (N : NS) : Grow n N N := ⟨Handed'.refl N, fun _ => Iff.rfl, fun _ _ _ => Int.le_refl _⟩
theorem Grow.trans {n : Nat} {A B C : NS} (h : Grow n A B) (k : Grow n B C) : Grow n A C := ⟨h.hd.trans k.hd, fun z => (k.gm z).trans (h.gm z), fun i hi j => Int.le_trans (h.cl i hi j) (k.cl i hi j)⟩

/-- What copy i lacks first, and copy k has made, has come. -/
def DoneP (n : Nat) (N N' : NS) (i k : Nat) : Prop := ∀ x, Gm n N.C x → x.o.toNat - 1 = k → x.num ≤ (N.C i).cl k + 1 → (∀ j, j < n → x.q j ≤ (N.C i).cl j) → x.num ≤ (N'.C i).cl k

theorem DoneP.grow {n : Nat} {N N' N'' : NS} {i k : Nat} (h : DoneP n N N' i k) (hi : i < n) (g : Grow n N' N'') : DoneP n N N'' i k := fun x h1 h2 h3 h4 => Int.le_trans (h x h1 h2 h3 h4) (g.cl i hi k)

theorem takesAll_append (S : CS) (a b : List OpR) : takesAll (takesAll S a) b = takesAll S (a ++ b) := by unfold takesAll; rw [List.foldl_append]

/-- All that copy k answers has come to copy i. -/
theorem pair_done {base nb n : Nat} {N N' : NS} {w : World} (h : NI base nb N' n w) (g : Grow n N N') {i k : Nat} {x y : Cq} (hi : N'.cps[i]? = some x) (hk : N'.cps[k]? = some y) :
    Grow n N' { N' with cps := N'.cps.set i { x with S := takesAll x.S (miss y.S x.S.cl) } } ∧ DoneP n N { N' with cps := N'.cps.set i { x with S := takesAll x.S (miss y.S x.S.cl) } } i k := by
  obtain ⟨hI, hxn, hxs, hin⟩ := h.inv hi
  obtain ⟨hIy, hyn, hys, hkn⟩ := h.inv hk
  have hG : ∀ z ∈ miss y.S x.S.cl, Gm n N'.C z := fun z hz => (h.ok.b.of k hkn).ops z (by rw [NS.C_at hk]; exact miss_mem hz)
  obtain ⟨g1, h1, c1, p1⟩ := h.ok.takes hin hG
  rw [NS.C_at hi] at g1 h1 c1 p1
  have hC := NS.C_set hi (takesAll x.S (miss y.S x.S.cl))
  have hcl : ∀ c, c < n → ∀ q, (N'.C c).cl q ≤ (NS.C { N' with cps := N'.cps.set i { x with S := takesAll x.S (miss y.S x.S.cl) } } c).cl q := fun c _ q => by
    rw [hC]
    by_cases e : c = i
    · rw [e, updC_same, NS.C_at hi]; exact c1 q
    · rw [updC_other _ _ e]; exact Int.le_refl _
  refine ⟨⟨⟨rfl, rfl, rfl, rfl, rfl, rfl, rfl, by simp, fun c z hc => ?_⟩, fun z => by rw [hC]; exact g1 z, hcl⟩, fun z hz ek hn hq => ?_⟩
  · by_cases q : i = c
    · subst q
      rw [hi] at hc
      cases hc
      have := (List.getElem?_eq_some_iff.1 hi).1
      exact ⟨takesAll x.S (miss y.S x.S.cl), by simp [this]⟩
    · exact ⟨z.S, by simp [q, hc]⟩
  · have m1 := g.cl i hin k
    by_cases hle : z.num ≤ (N'.C i).cl k
    · exact Int.le_trans hle (hcl i hin k)
    · have hzG := (g.gm z).2 hz
      have hzk : z ∈ y.S.ops := by have := hzG.2; rw [ek, NS.C_at hk] at this; exact this
      rw [NS.C_at hi] at hle m1
      have hzm : z ∈ miss y.S x.S.cl := miss_has hIy.ops hzk (by rw [ek]; omega)
      have := p1 z hzm (by rw [ek]; omega) (fun j hj => by have a := hq j hj; have b := g.cl i hin j; rw [NS.C_at hi] at b; omega)
      rw [hC, updC_same]
      rw [ek] at this
      exact this

end Go.Proofs.YtachmkhbbbmioaaGreat

namespace Go.Proofs.YtachmkhbbbmioaaGreat
open Go.RowKit Go.Shelf

set_option maxRecDepth 100000 in
set_option maxHeartbeats 4000000 in
/-- one: all clocks count all that was made. -/
theorem oneK (base nb n : Nat) (N : NS) (w : World) (h : NI base nb N n w) (hb : base ≤ w.heap.size) (hK : N.wr.length ≤ 100) :
    Calls Tryz.prog 23 #[.pointer (some ⟨nb, 0, none⟩)] w fun e w' => ((e = .returned (.bool true) ∧ Full n N.C) ∨ (e = .returned (.bool false) ∧ ¬ Full n N.C)) ∧ NI base nb N n w' ∧ Below base w w' := by
  have hn8 := h.ok.b.n8
  have hn1 := h.ok.b.n1
  obtain ⟨gl, cl, hvl0⟩ := h.at_.vlv (by rw [h.len]; exact hn1)
  rw [h.len] at hvl0
  have HVL := hide hvl0
  have HNL := hide h.at_.nlt
  have HI := hide h
  obtain ⟨x, hx⟩ : ∃ x, N.cps[0]? = some x := ⟨N.cps[0]'(by rw [h.len]; exact hn1), by simp⟩
  obtain ⟨hI, hxn, hxs, -⟩ := h.inv hx
  have hrun := h.tx_run hx hK
  obtain ⟨c0, ci⟩ := h.at_.ptrs hvl0
  have cx := ci 0 x hx
  have HX := hide hx
  have HT := hide (qText x w (h.at_.cps 0 x hx) hI)
  have HC := hide (fun w hx => qClock x w hx hI)
  have HRUN := hide hrun
  have hat := h.at_
  clear h hvl0 ci hx hrun hxs
  go_enter Tryz.func23, Tryz.ntmps23
  go_wp2_with fail
  refine HT.out.mono ?_
  rintro e w1 ⟨rfl, hx1, hF1⟩
  obtain ⟨hN1, hB1⟩ := hat.same HX.out hb hx1 hF1
  obtain ⟨c01, ci1⟩ := hN1.ptrs HVL.out
  have cx1 := ci1 0 x HX.out
  clear ci1 c0 cx hat HT
  go_wp2_with fail
  refine (HC.out w1 hx1).mono ?_
  rintro e w2 ⟨v, rfl, hv, hvg, hx2, hF2⟩
  obtain ⟨hN2, hB2⟩ := hN1.same HX.out (Nat.le_trans hb hB1.size) hx2 hF2
  have hvg' : ∀ g, v.ownBlock = some g → w.heap.size ≤ g := fun g hg => Nat.le_trans hF1.size (hvg g hg)
  have hB02 := hB1.trans hB2
  clear c01 cx1 hN1 hB1 hB2 hF1 hF2 hx1 hx2 HC hvg
  go_wp2_with fail
  go_loopg [5, 6, 7] n (fun gk s5 _s6 _s7 wr => ∃ (i : Nat), s5 = .int .i64 i ∧ i ≤ n ∧ gk = n - i ∧ NAt base nb N wr ∧ Below base w wr ∧ RowAt 3 1 v (ckRow x.S) wr ∧ Hid (∀ i', i' < i → ∀ j, j < n → (N.C 0).cl j = (N.C i').cl j))
  case atStart => exact ⟨0, rfl, by omega, rfl, hN2, hB02, hv, hide (fun i' h => by omega)⟩
  case round =>
    clear hN2 hB02 hv
    obtain ⟨i, rfl, hin, hgk, hN, hB, hr, HE⟩ := hrel
    have hbr : base ≤ wr.heap.size := Nat.le_trans hb hB.size
    obtain ⟨c0, ci⟩ := hN.ptrs HVL.out
    by_cases hlt : i < n
    · have hli : (i : Int) < (n : Int) := by omega
      obtain ⟨y, hy⟩ : ∃ y, N.cps[i]? = some y := ⟨N.cps[i]'(by rw [HI.out.len]; exact hlt), by simp⟩
      have cy := ci i y hy
      obtain ⟨hIy, hyn, -, -⟩ := HI.out.inv hy
      have hruny := HI.out.tx_run hy hK
      have HY := hide hy
      have HYL := hide (HNL.out.cps i y hy)
      have HT := hide (fun w hx => qText y w hx hIy)
      have HC := hide (fun w hx => qClock y w hx hIy)
      have HP := hide (fun w hx => qPending y w hx)
      have HS := hide (fun v u w hv hu => sameIntsK x.S y.S hI.good.n8 (hyn.trans hxn.symm) v u w hv hu)
      have hsame := HI.out.ok.same (i := 0) (j := i) (by omega) hlt
      rw [NS.C_at HY.out, NS.C_at HX.out] at hsame
      have HSM := hide hsame
      have HTE := hide (strT_ne hruny HRUN.out)
      have hwl : y.S.wt.length ≤ 16 := hIy.wo.len
      have HFW := hide (fun hf => HI.out.ok.full_wt hf hlt)
      clear ci hy hruny hsame hIy
      go_wp2_with fail
      refine (HT.out wr (hN.cps i y HY.out)).mono ?_
      rintro e w3 ⟨rfl, hx3, hF3⟩
      obtain ⟨hN3, hB3⟩ := hN.same HY.out hbr hx3 hF3
      have hr3 := hr.call HYL.out hvg' hF3
      obtain ⟨c03, ci3⟩ := hN3.ptrs HVL.out
      have cy3 := ci3 i y HY.out
      clear ci3 c0 cy hN hr HT
      go_wp2_with fail
      refine (HC.out w3 hx3).mono ?_
      rintro e w4 ⟨u, rfl, hu, -, hx4, hF4⟩
      obtain ⟨hN4, hB4⟩ := hN3.same HY.out (Nat.le_trans hbr hB3.size) hx4 hF4
      have hr4 := hr3.call HYL.out hvg' hF4
      have hB4' := (hB.trans hB3).trans hB4
      clear c03 cy3 hN3 hr3
      have HS4 := hide (HS.out _ _ w4 hr4 hu)
      go_wp2_with fail
      refine HS4.out.mono ?_
      rintro e w5 ⟨sm, rfl, hsm, g5⟩
      have hN5 := hN4.grown g5
      have hb5 : base ≤ w5.heap.size := Nat.le_trans (Nat.le_trans hb hB4'.size) g5.size
      have hB5 : Below base w w5 := hB4'.grown g5 (Nat.le_trans hb hB4'.size) (by simp)
      have hr5 := hr4.grown g5
      have hx5 := hx4.grown g5
      obtain ⟨c05, ci5⟩ := hN5.ptrs HVL.out
      have cy5 := ci5 i y HY.out
      have HSMM := hide hsm
      rw [hxn] at hsm
      clear ci5 hN4 hr4 hB4 hB4' hB3 hF3 hF4 hx3 hx4 hu HS HS4 HC g5 hB
      have noFull : sm = false → ¬ Full n N.C := fun e hf => by
        have : sm = true := hsm.2 (fun j hj => by
          have a := hf 0 (by omega) j hj
          have b := hf i hlt j hj
          rw [NS.C_at HX.out] at a
          rw [NS.C_at HY.out] at b
          omega)
        rw [e] at this; cases this
      have HNF := hide noFull
      clear noFull hsm
      cases sm with
      | false =>
        have hnf : ¬ Full n N.C := HNF.out (by first | rfl | trivial)
        have HNF2 := hide hnf
        clear hnf
        go_wp2_with fail
        all_goals
          go_ret
          exact ⟨.inr ⟨rfl, HNF2.out⟩, ⟨hN5, HI.out.len, HI.out.ok, HI.out.air⟩, hB5⟩
      | true =>
        have hcl : ∀ j, j < n → x.S.cl j = y.S.cl j := by
          have := HSMM.out
          rw [hxn] at this
          exact this.1 rfl
        have hte : str (txtR (tx y.S)) = str (txtR (tx x.S)) := by rw [HSM.out hcl]
        have hby : (⟨(txtR (tx y.S)).toArray⟩ : ByteArray) = ⟨(txtR (tx x.S)).toArray⟩ := by injection hte
        have HCL := hide hcl
        clear hte hcl
        obtain ⟨pl, hpl⟩ : ∃ pl, y.S.wt.length = pl := ⟨_, rfl⟩
        rw [hpl] at hwl
        have HPL := hide hpl
        have HP5 := hide (HP.out w5 hx5)
        rw [hpl] at HP5
        clear hpl HP
        go_wp2_with fail
        refine HP5.out.mono ?_
        rintro e w6 ⟨rfl, hx6, hF6⟩
        obtain ⟨hN6, hB6⟩ := hN5.same HY.out hb5 hx6 hF6
        have hr6 := hr5.call HYL.out hvg' hF6
        have hB6' := hB5.trans hB6
        clear hN5 hr5 c05 cy5 hx5 hx6 hF6 hB5 hB6
        by_cases hp0 : pl = 0
        · subst hp0
          go_wp2_with fail
          go_roundg (n - (i + 1))
          case measure => omega
          case rel => exact ⟨i + 1, by go_num, by omega, rfl, hN6, hB6', hr6, hide (fun i' hi' j hj => by
            by_cases q : i' = i
            · rw [q, NS.C_at HX.out, NS.C_at HY.out]; exact HCL.out j hj
            · exact HE.out i' (by omega) j hj)⟩
        · have hpn : ((pl : Int) != 0) = true := by simp; omega
          go_wp2_with fail
          go_ret
          refine ⟨.inr ⟨rfl, fun hf => ?_⟩, ⟨hN6, HI.out.len, HI.out.ok, HI.out.air⟩, hB6'⟩
          have := HFW.out hf
          rw [NS.C_at HY.out] at this
          have e2 := HPL.out
          rw [this] at e2
          simp at e2
          omega
    · have hli : ¬ (i : Int) < (n : Int) := by omega
      obtain e : i = n := by omega
      rw [e] at HE
      clear ci e
      have hfu : Full n N.C := fun a ha j hj => by rw [← HE.out a ha j hj, HE.out j hj j hj]
      have HFU := hide hfu
      clear hfu
      go_wp2_with fail
      exact bodyPost_ret (v := .bool true) (by simp [results, Tryz.results23, go_sem]) rfl ⟨.inl ⟨rfl, HFU.out⟩, ⟨hN, HI.out.len, HI.out.ok, HI.out.air⟩, hB⟩

end Go.Proofs.YtachmkhbbbmioaaGreat

namespace Go.Proofs.YtachmkhbbbmioaaGreat
open Go.RowKit Go.Shelf

theorem set_cps {N : NS} {i : Nat} {x : Cq} (h : N.cps[i]? = some x) : { N with cps := N.cps.set i { x with S := takesAll x.S ([] : List OpR) } } = N := by
  have e : N.cps.set i x = N.cps := by
    obtain ⟨hl, hx⟩ := List.getElem?_eq_some_iff.1 h
    rw [← hx]; exact List.set_getElem_self hl
  show { N with cps := N.cps.set i x } = N
  rw [e]

theorem take_flat {α : Type} {L : List (List α)} {j : Nat} {m : List α} (h : L[j]? = some m) : (L.take (j + 1)).flatten = (L.take j).flatten ++ m := by
  rw [List.take_add_one, h, List.flatten_append]; simp

set_option maxRecDepth 100000 in
set_option maxHeartbeats 8000000 in
theorem roundK (base nb n : Nat) (N : NS) (w : World) (h : NI base nb N n w) (hb : base ≤ w.heap.size) :
    Calls Tryz.prog 24 #[.pointer (some ⟨nb, 0, none⟩)] w fun e w' => e = .returned (.bool true) ∧ ∃ N', NI base nb N' n w' ∧ Grow n N N' ∧ (∀ i k, i < n → k < n → i ≠ k → DoneP n N N' i k) ∧ Below base w w' := by
  have hn8 := h.ok.b.n8
  have hn1 := h.ok.b.n1
  obtain ⟨gl, cl, hvl0⟩ := h.at_.vlv (by rw [h.len]; exact hn1)
  rw [h.len] at hvl0
  have HVL := hide hvl0
  have HNL := hide h.at_.nlt
  have HI := hide h
  clear hvl0
  go_enter Tryz.func24, Tryz.ntmps24
  go_wp2_with fail
  go_loopg [3, 4, 5, 6, 7, 8, 9] n (fun gk s3 _s4 _s5 _s6 _s7 _s8 _s9 wr => ∃ (i : Nat) (N' : NS), s3 = .int .i64 i ∧ i ≤ n ∧ gk = n - i ∧ NI base nb N' n wr ∧ Hid (Grow n N N') ∧ Hid (∀ i' k', i' < i → k' < n → i' ≠ k' → DoneP n N N' i' k') ∧ Below base w wr)
  case atStart => exact ⟨0, N, rfl, by omega, rfl, h, hide (Grow.refl n N), hide (fun i' k' h => by omega), Below.refl _ w⟩
  case round =>
    clear h
    obtain ⟨i, N', rfl, hin, hgk, hNI, HG, HD, hB⟩ := hrel
    obtain ⟨c0, -⟩ := hNI.at_.ptrs (HG.out.hd.vl.trans HVL.out)
    by_cases hlt : i < n
    · have hli : (i : Int) < (n : Int) := by omega
      go_wp2_with fail
      clear c0
      go_loopg [4, 5, 6, 7, 8, 9] n (fun gk s4 _s5 _s6 _s7 _s8 _s9 wr => ∃ (k : Nat) (N' : NS), s4 = .int .i64 k ∧ k ≤ n ∧ gk = n - k ∧ NI base nb N' n wr ∧ Hid (Grow n N N') ∧ Hid (∀ i' k', i' < i → k' < n → i' ≠ k' → DoneP n N N' i' k') ∧ Hid (∀ k', k' < k → i ≠ k' → DoneP n N N' i k') ∧ Below base w wr)
      case atStart => exact ⟨0, N', rfl, by omega, rfl, hNI, HG, HD, hide (fun k' h => by omega), hB⟩
      case round =>
        clear hNI HG HD hB
        obtain ⟨k, N', rfl, hkn, hgk2, hNI, HG, HD, HD2, hB⟩ := hrel
        have hbr : base ≤ wr.heap.size := Nat.le_trans hb hB.size
        have HVL' := hide (HG.out.hd.vl.trans HVL.out)
        obtain ⟨c0, ci⟩ := hNI.at_.ptrs HVL'.out
        by_cases hkl : k < n
        · have hkli : (k : Int) < (n : Int) := by omega
          by_cases hik : i = k
          · subst hik
            have hee : ((i : Int) == (i : Int)) = true := by simp
            clear ci
            go_wp2_with fail
            go_roundg (n - (i + 1))
            case measure => omega
            case rel => exact ⟨i + 1, N', by go_num, by omega, rfl, hNI, HG, HD, hide (fun k' h1 h2 => HD2.out k' (by omega) h2), hB⟩
          · have hee : ((i : Int) == (k : Int)) = false := by simp; omega
            obtain ⟨x, hx⟩ : ∃ x, N'.cps[i]? = some x := ⟨N'.cps[i]'(by rw [hNI.len]; exact hlt), by simp⟩
            obtain ⟨y, hy⟩ : ∃ y, N'.cps[k]? = some y := ⟨N'.cps[k]'(by rw [hNI.len]; exact hkl), by simp⟩
            obtain ⟨hI, hxn, hxs, -⟩ := hNI.inv hx
            obtain ⟨hIy, hyn, -, -⟩ := hNI.inv hy
            have cx := ci i x hx
            have cy := ci k y hy
            have HX := hide hx
            have HY := hide hy
            have gd : wr.grownBy wr.drew none := grown_drew (grown_refl wr)
            have hNd := hNI.at_.grown gd
            have hbd : base ≤ wr.drew.heap.size := Nat.le_trans hbr gd.size
            have HT := hide (qTick x wr.drew (hNd.cps i x hx) hI)
            rw [hxn] at HT
            have hqx : ∀ q, q < y.S.n → 0 ≤ x.S.cl q ∧ x.S.cl q ≤ 100 := fun q hq => hI.good.cl q (by omega)
            have HH := hide (fun w hx => qHandDig y x.S.s (by omega) (by omega) x.S.cl hqx w hx hIy)
            rw [hyn] at HH
            obtain ⟨PL, hPL⟩ : ∃ PL, packs n [] (miss y.S x.S.cl) = PL := ⟨_, rfl⟩
            have hans : answers n (miss y.S x.S.cl) = PL.map (batch n) := by unfold answers; rw [hPL]
            have hpk := hNI.ok.ans hkl x.S.cl
            rw [NS.C_at hy, hPL] at hpk
            have hall := answers_len hIy.good hIy.ops x.S.cl hqx
            rw [hyn, hans] at hall
            simp only [hans] at HH
            have HPK := hide hpk
            have HLEN : Hid (∀ z, N'.cps[i]? = some z → ∀ k ∈ z.own, k < w.heap.size) := hide (fun z hz => (HNL.out.handed HG.out.hd).cps i z hz)
            have HXO := hide (HLEN.out x hx)
            have HYO := hide ((HNL.out.handed HG.out.hd).cps k y hy)
            have hww : w.heap.size ≤ wr.heap.size := hB.size
            generalize digest n x.S.s x.S.cl = DD at HT HH
            have HNI := hide hNI
            clear ci hx hy hPL hans hpk hqx hxs hNI
            go_wp2_with fail
            go_region_held3 (fun w' => w'.cell? ⟨nb, 0, none⟩ = some (.slice (some ⟨gl, 0, none⟩) n cl) ∧ w'.cell? ⟨gl, k, none⟩ = some y.ptr ∧ w'.cell? ⟨gl, i, none⟩ = some x.ptr)
              (first | exact ⟨kp1, kp2, kp3⟩ | go_keep)
              (first | (go_at_call 30; refine HT.out.mono ?_; rintro e w3 ⟨rfl, hx3, hF3⟩; obtain ⟨hN3, hB3⟩ := hNd.same HX.out hbd hx3 hF3; obtain ⟨kp1, kpc⟩ := hN3.ptrs HVL'.out; have kp2 := kpc k y HY.out; have kp3 := kpc i x HX.out; clear kpc) | (go_at_call 31; refine (HH.out w3 (hN3.cps k y HY.out)).mono ?_; rintro e w4 ⟨v, rfl, hRv, hOv, hy4, hF4⟩; obtain ⟨hN4, hB4⟩ := hN3.same HY.out (Nat.le_trans hbd hB3.size) hy4 hF4; obtain ⟨kp1, kpc⟩ := hN4.ptrs HVL'.out; have kp2 := kpc k y HY.out; have kp3 := kpc i x HX.out; clear kpc))
            all_goals
              have hB4w : Below base w w4 := ((hB.grown gd hbr (by simp)).trans hB3).trans hB4
              have hvg : ∀ g, v.ownBlock = some g → w.heap.size ≤ g := fun g hg => Nat.le_trans (Nat.le_trans hww hF3.size) (hOv g hg)
              obtain ⟨av, cv, hve, -⟩ := hRv.value
              rw [strRow_len] at hve
              obtain ⟨la, hla⟩ : ∃ la, (PL.map (batch n)).length = la := ⟨_, rfl⟩
              rw [hla] at hve hall
              have HLA := hide hla
              subst hve
              have h4 : NI base nb { N' with cps := N'.cps.set i { x with S := takesAll x.S ((PL.take 0).flatten) } } n w4 := by
                have e : { N' with cps := N'.cps.set i { x with S := takesAll x.S ((PL.take 0).flatten) } } = N' := set_cps HX.out
                rw [e]
                exact ⟨hN4, HNI.out.len, HNI.out.ok, HNI.out.air⟩
              clear kp1 kp2 kp3 hN4 hN3 hB3 hB4 hF3 hF4 hx3 hy4 hOv hla cx cy c0 gd hNd hbd HT HH hB
              go_wp2_with fail
              go_loopg [7, 8, 9] la (fun gk s7 _s8 _s9 wr => ∃ (j : Nat), s7 = .int .i64 j ∧ j ≤ la ∧ gk = la - j ∧ NI base nb { N' with cps := N'.cps.set i { x with S := takesAll x.S ((PL.take j).flatten) } } n wr ∧ Below base w wr ∧ RowAt 9 1 (.slice av la cv) (strRow (PL.map (batch n))) wr)
              case atStart => exact ⟨0, rfl, by omega, rfl, h4, hB4w, hRv⟩
              case round =>
                clear h4 hB4w hRv hbr hww
                obtain ⟨j, rfl, hjl, hgk3, hJ, hB, hRv⟩ := hrel
                have hbr : base ≤ wr.heap.size := Nat.le_trans hb hB.size
                by_cases hjt : j < la
                · have hjli : (j : Int) < (la : Int) := by omega
                  obtain ⟨m, hm⟩ : ∃ m, PL[j]? = some m := ⟨PL[j]'(by have := HLA.out; simp at this; omega), by simp⟩
                  obtain ⟨hm1, hm2, hm3⟩ := HPK.out.2 m (List.mem_of_getElem? hm)
                  obtain ⟨gv, cv', cur, hve, -, hbv, hcv⟩ := hRv.cell (i := j) (x := [str (batch n m)]) (by simp [strRow, hm])
                  rw [strRow_len, HLA.out] at hve
                  cases hve
                  have cl0 : wr.cell? ⟨gv, j, none⟩ = some (str (batch n m)) := (cell_blk hbv _).trans (by simpa using hcv 0 _ rfl)
                  clear hcv hbv
                  obtain ⟨SJ, hSJ⟩ : ∃ SJ, takesAll x.S ((PL.take j).flatten) = SJ := ⟨_, rfl⟩
                  have hSJ1 : takesAll x.S ((PL.take (j + 1)).flatten) = takesAll SJ m := by rw [take_flat hm, ← takesAll_append, hSJ]
                  rw [hSJ] at hJ
                  have hxl := (List.getElem?_eq_some_iff.1 HX.out).1
                  have hxJ : (N'.cps.set i { x with S := SJ })[i]? = some { x with S := SJ } := by simp [hxl]
                  have hvJ : NS.vl { N' with cps := N'.cps.set i { x with S := SJ } } = .slice (some ⟨gl, 0, none⟩) n cl := HVL'.out
                  obtain ⟨c0, ci⟩ := hJ.at_.ptrs hvJ
                  have cx : wr.cell? ⟨gl, i, none⟩ = some x.ptr := ci i { x with S := SJ } hxJ
                  obtain ⟨hIJ, hnJ, -, -⟩ := hJ.inv (j := i) hxJ
                  have hGJ : ∀ z ∈ m, Gm n (NS.C { N' with cps := N'.cps.set i { x with S := SJ } }) z := fun z hz => by
                    have hz1 := hm2 z hz
                    have hpre : ∀ q ∈ (PL.take j).flatten, Gm n N'.C q := fun q hq => by
                      obtain ⟨l, hl, hq⟩ := List.mem_flatten.1 hq
                      exact (HPK.out.2 l (List.mem_of_mem_take hl)).2.1 q hq
                    have hg := (HNI.out.ok.takes (i := i) hlt hpre).1 z
                    rw [NS.C_at HX.out, hSJ] at hg
                    rw [NS.C_set HX.out]
                    exact hg.2 hz1
                  have gd : wr.grownBy wr.drew none := grown_drew (grown_refl wr)
                  have hJd : NI base nb { N' with cps := N'.cps.set i { x with S := SJ } } n wr.drew := hJ.grown gd
                  have hbd : base ≤ wr.drew.heap.size := Nat.le_trans hbr gd.size
                  have hnJ' : SJ.n = n := hnJ
                  have HB : Hid (Calls Tryz.prog 31 #[x.ptr, str (batch n m)] wr.drew fun e w1 => ∃ ao co, e = .returned (.tuple #[.slice ao 0 co, .int .i64 0]) ∧ Cq.At { x with S := takesAll SJ m } w1 ∧ Fr x.own wr.drew w1) := by
                    have := qHandBat { x with S := SJ } m (by rw [hnJ]; exact hm1) (by rw [hnJ, ← batch_enc]; exact hm3) wr.drew (hJd.at_.cps i _ hxJ) hIJ
                    simp only [hnJ', ← batch_enc] at this
                    exact hide (this.mono (fun e w1 ⟨h1, h2⟩ => ⟨none, 0, h1, h2⟩))
                  have hrd := hRv.grown gd
                  have hFl : ¬ (120 : Int) < ((batch n m).length : Int) := by omega
                  generalize hFF : batch n m = FF at cl0 HB hFl hm3
                  have HTK := hide (fun (w5 : World) (hx5 : Cq.At { x with S := takesAll SJ m } w5) (hF5 : Fr x.own wr.drew w5) => hJd.took (j := i) hxJ hbd hGJ hx5 hF5)
                  have hset : { N' with cps := (N'.cps.set i { x with S := SJ }).set i { x with S := takesAll SJ m } } = { N' with cps := N'.cps.set i { x with S := takesAll x.S ((PL.take (j + 1)).flatten) } } := by rw [List.set_set, hSJ1]
                  have HSET := hide hset
                  clear ci hIJ hnJ hnJ' hGJ hm1 hm2 hm hSJ hSJ1 hset hJd hJ hxJ hvJ hFF
                  go_wp2_with fail
                  go_region_held3 (fun w' => w'.cell? ⟨nb, 0, none⟩ = some (.slice (some ⟨gl, 0, none⟩) n cl) ∧ w'.cell? ⟨gl, i, none⟩ = some x.ptr ∧ w'.cell? ⟨gv, j, none⟩ = some (str FF))
                    (first | exact ⟨kp1, kp2, kp3⟩ | go_keep)
                    ((go_at_call 31; refine HB.out.mono ?_; rintro e w5 ⟨ao, co, rfl, hx5, hF5⟩; obtain ⟨hNI5, -, -, hB5⟩ := HTK.out w5 hx5 hF5; have hR5 := hrd.call HXO.out hvg hF5; have kp3 : w5.cell? ⟨gv, j, none⟩ = some (str FF) := (World.cell?_of_block (a := ⟨gv, j, none⟩) (hF5.block gv (hrd.lt rfl) (fun q => by have := HXO.out gv q; have := hvg gv rfl; omega))).trans cl0; obtain ⟨kp1, ci5⟩ := hNI5.at_.ptrs (gl := gl) (n := n) (cl := cl) HVL'.out; have kp2 : w5.cell? ⟨gl, i, none⟩ = some x.ptr := ci5 i { x with S := takesAll SJ m } (by simp [hxl])))
                  all_goals
                    rw [show ({ N' with cps := N'.cps.set i { x with S := SJ } } : NS).cps.set i { x with S := takesAll SJ m } = (N'.cps.set i { x with S := SJ }).set i { x with S := takesAll SJ m } from rfl] at hNI5
                    have hNI5' : NI base nb { N' with cps := N'.cps.set i { x with S := takesAll x.S ((PL.take (j + 1)).flatten) } } n w5 := by rw [← HSET.out]; exact hNI5
                    have hB5w : Below base w w5 := (hB.grown gd hbr (by simp)).trans hB5
                    clear ci5 kp1 kp2 hNI5 hF5 hx5 hB5 hB hRv hrd gd hbd HB HTK c0 cx cl0
                    go_wp2_with fail
                    go_roundg (la - (j + 1))
                    case measure => omega
                    case rel => exact ⟨j + 1, by go_num, by omega, rfl, hNI5', hB5w, hR5⟩
                · have hjli : ¬ (j : Int) < (la : Int) := by omega
                  obtain rfl : j = la := by omega
                  have hfull : (PL.take j).flatten = miss y.S x.S.cl := by
                    have e := HLA.out
                    rw [List.length_map] at e
                    rw [List.take_of_length_le (by omega)]
                    exact HPK.out.1
                  rw [hfull] at hJ
                  obtain ⟨hGr, hDn⟩ := pair_done HNI.out HG.out HX.out HY.out
                  have HGf := hide (HG.out.trans hGr)
                  have HD' := hide (fun i' k' h1 h2 h3 => (HD.out i' k' h1 h2 h3).grow (show i' < n by omega) hGr)
                  have HD2' := hide (fun k' (h1 : k' < k + 1) (h2 : i ≠ k') => (show DoneP n N { N' with cps := N'.cps.set i { x with S := takesAll x.S (miss y.S x.S.cl) } } i k' from by
                    by_cases q : k' = k
                    · rw [q]; exact hDn
                    · exact (HD2.out k' (by omega) h2).grow hlt hGr))
                  clear hGr hDn hfull
                  go_wp2_with fail
                  go_roundg (n - (k + 1))
                  case measure => omega
                  case rel => exact ⟨k + 1, _, by go_num, by omega, rfl, hJ, HGf, hide HD'.out, hide HD2'.out, hB⟩
        · have hkli : ¬ (k : Int) < (n : Int) := by omega
          clear ci
          go_wp2_with fail
          go_roundg (n - (i + 1))
          case measure => omega
          case rel => exact ⟨i + 1, N', by go_num, by omega, rfl, hNI, HG, hide (fun i' k' h1 h2 h3 => by
            by_cases q : i' = i
            · rw [q] at h3 ⊢; exact HD2.out k' (by omega) h3
            · exact HD.out i' k' (by omega) h2 h3), hB⟩
    · have hli : ¬ (i : Int) < (n : Int) := by omega
      go_wp2_with fail
      go_ret
      exact ⟨rfl, N', hNI, HG.out, fun i' k' h1 h2 h3 => HD.out i' k' (by omega) h2 h3, hB⟩

end Go.Proofs.YtachmkhbbbmioaaGreat

namespace Go.Proofs.YtachmkhbbbmioaaGreat
open Go.RowKit Go.Shelf

/-- The runes that were written, one by one. -/
theorem HNth {base nb n : Nat} {N : NS} {w : World} (h : NI base nb N n w) : ∀ k, k < N.wr.length → N.wr[k]? = some (19968 + (k : Int)) := h.ok.t.nth

/-- A round brings each copy that lacks something nearer. -/
theorem round_near {base nb n : Nat} {N N' : NS} {w : World} (h : NI base nb N n w) (g : Grow n N N') (hd : ∀ i k, i < n → k < n → i ≠ k → DoneP n N N' i k) {c : Nat} (hc : c < n) {t : Int} (ht : t ≤ sumTo n (N.C c).cl ∨ (N.wr.length : Int) + N.de.length ≤ sumTo n (N.C c).cl) : t + 1 ≤ sumTo n (N'.C c).cl ∨ (N.wr.length : Int) + N.de.length ≤ sumTo n (N'.C c).cl := by
  have hm := sumTo_le n (fun k _ => g.cl c hc k)
  by_cases q : (N.wr.length : Int) + N.de.length ≤ sumTo n (N.C c).cl
  · right; omega
  · left
    obtain ⟨x, hx, hne, hnum, hq⟩ := h.ok.lacks hc (by omega)
    have hk := hx.lt
    have := hd c (x.o.toNat - 1) hc hk (fun e => hne e.symm) x hx rfl (by omega) hq
    have := sumTo_lt n hk (fun k _ => g.cl c hc k) (by omega)
    omega

set_option maxRecDepth 100000 in
set_option maxHeartbeats 16000000 in
theorem converged_k (c : Int) (hc1 : -9223372036854775808 ≤ c) (hc2 : c ≤ 9223372036854775807) (a : Option Addr) (len cap : Nat) (hlen : len ≤ 9223372036854775807) (w : World)
    (hs : ∀ i, i < len → ∃ b off k C A B, a = some ⟨b, off, none⟩ ∧ b < w.heap.size ∧ ActK w b off i k C A B) :
    Calls Tryz.prog 8 #[.int .i64 c, .slice a len cap] w fun e w' => e = .returned (.bool true) ∧ Below w.heap.size w w' := by
  have HW := hide (worksK w)
  have hp3 := pkK_lt c (n := 3) (by omega)
  have HP := hide (fun w => pickK c 3 (by omega) (by omega) hc1 hc2 w)
  generalize pkK c 3 = q at hp3 HP
  have e3 : ((3 : Nat) : Int) = 3 := rfl
  rw [e3] at HP
  obtain ⟨n, hn⟩ : ∃ n : Nat, 2 + (q : Int) = (n : Int) := ⟨2 + q, by omega⟩
  have hn4 : 2 ≤ n ∧ n ≤ 4 := by omega
  have HO := hide (fun w => openedK n (by omega) (by omega) w)
  have HS := hide hs
  clear hs e3
  go_enter Tryz.func8, Tryz.ntmps8
  go_wp2_with fail
  refine HW.out.mono ?_
  rintro e w1 ⟨rfl, hB1⟩
  go_wp2_with (go_at_call 20; refine (HP.out _).mono ?_; rintro e w' ⟨rfl, hw⟩; rw [hw]; clear hw w')
  refine (HO.out w1).mono ?_
  rintro e w2 ⟨nb, rfl, N0, hN0, hl0, hS0, ha0, hw0, hd0, hB2⟩
  have hNI0 := NI.new (by omega) (by omega) hN0 hl0 hS0 ha0 hw0 hd0
  have hfit0 : FitN N0 0 := ⟨by rw [hw0, hd0]; simp, by rw [ha0]; simp⟩
  obtain ⟨base, hbase⟩ : ∃ base, w1.heap.size = base := ⟨_, rfl⟩
  rw [hbase] at hNI0 hB2
  have hwb : w.heap.size ≤ base := by rw [← hbase]; exact hB1.size
  have hb2 : base ≤ w2.heap.size := by rw [← hbase]; exact hB2.size
  have HB1 := hide hB1
  have HBS := hide hbase
  clear hN0 hl0 hS0 ha0 hw0 hd0 HW HP HO hB1 hbase hn
  go_wp2_with fail
  go_loopg [7, 8] 80 (fun gk s7 _s8 wr => ∃ (i : Nat) (N : NS), s7 = .int .i64 i ∧ i ≤ len ∧ i ≤ 80 ∧ gk = 80 - i ∧ FitN N i ∧ NI base nb N n wr ∧ Below base w1 wr)
  case atStart => exact ⟨0, N0, rfl, by omega, by omega, rfl, hfit0, hNI0, hB2⟩
  case round =>
    clear hfit0 hNI0 hB2
    obtain ⟨i, N, rfl, hil, hi80, hgk, hft, hNI, hB⟩ := hrel
    have hbr : base ≤ wr.heap.size := by rw [← HBS.out]; exact hB.size
    have f1 := hft.cnt
    have f2 := hft.air
    by_cases hlt : i < len ∧ i < 80
    · obtain ⟨hlt, hl80⟩ := hlt
      have hli : (i : Int) < (len : Int) := by omega
      have hli8 : (i : Int) < 80 := by omega
      obtain ⟨b, off, k, C, A, B, hae, hbw, d0, d1, d2, d3, rk, rC, rA, rB⟩ := HS.out i hlt
      have kc : ∀ (o : Nat) (v : Value), w.cell? ⟨b, o, none⟩ = some v → wr.cell? ⟨b, o, none⟩ = some v := fun o v hv => (hB.cell (p := ⟨b, o, none⟩) (show b < base by omega)).trans ((HB1.out.cell (p := ⟨b, o, none⟩) hbw).trans hv)
      have r0 := kc _ _ d0
      have r1 := kc _ _ d1
      have r2 := kc _ _ d2
      have r3 := kc _ _ d3
      have HA := hide (actK base nb n N k C A B wr hNI hbr (by omega) (by omega) rk.1 rk.2 rC.1 rC.2 rA.1 rA.2 rB.1 rB.2)
      clear d0 d1 d2 d3 kc HS hNI
      subst hae
      go_wp2_with fail
      refine HA.out.mono ?_
      rintro e w3 ⟨rfl, N', h3, hn3, hB3⟩
      have hft3 := hft.next hn3
      clear r0 r1 r2 r3 HA
      go_wp2_with fail
      go_roundg (80 - (i + 1))
      case measure => omega
      case rel => exact ⟨i + 1, N', by go_num, by omega, by omega, rfl, hft3, h3, hB.trans hB3⟩
    · obtain ⟨gl, cl, hvl0⟩ := hNI.at_.vlv (by rw [hNI.len]; omega)
      rw [hNI.len] at hvl0
      have HVL := hide hvl0
      have hfacts : ((i : Int) < (len : Int) ∧ ¬ (i : Int) < 80) ∨ ¬ (i : Int) < (len : Int) := by omega
      obtain ⟨aw, cw, hvw, -⟩ := hNI.at_.wr.value
      rw [runeRow_len] at hvw
      obtain ⟨ad, cd, hvd, -⟩ := hNI.at_.de.value
      rw [runeRow_len] at hvd
      obtain ⟨q1, hq1⟩ : ∃ q1, N.wr.length = q1 := ⟨_, rfl⟩
      obtain ⟨q2, hq2⟩ : ∃ q2, N.de.length = q2 := ⟨_, rfl⟩
      rw [hq1] at hvw
      rw [hq2] at hvd
      have hq12 : q1 + q2 ≤ 80 := by omega
      have HQ1 := hide hq1
      have HQ2 := hide hq2
      have HVW := hide hvw
      have HVD := hide hvd
      have c2 : wr.cell? ⟨nb, 2, none⟩ = some (.slice aw q1 cw) := by rw [← hvw]; exact cell_blk hNI.at_.cp 2
      have c3 : wr.cell? ⟨nb, 3, none⟩ = some (.slice ad q2 cd) := by rw [← hvd]; exact cell_blk hNI.at_.cp 3
      clear hlt hvl0 HS hgk hft f1 f2 hvw hvd hq1 hq2
      rcases hfacts with ⟨hli, hli8⟩ | hli
      all_goals
        go_wp2_with fail
        go_quiet (fail)
        have g0 : wr.grownBy (wr.drewN nq) none := grown_drewN _ _
        generalize wr.drewN nq = w0 at g0 ⊢
        have h0 := hNI.grown g0
        have hB0 : Below base w1 w0 := hB.grown g0 hbr (by simp)
        have hb0 : base ≤ w0.heap.size := Nat.le_trans hbr g0.size
        have HO1 := hide (oneK base nb n N w0 h0 hb0 (by have := HQ1.out; omega))
        clear hNI hB hbr g0 c2 c3 hli h0
        go_wp2_with fail
        refine HO1.out.mono ?_
        rintro e w3 ⟨hdn, h3, hB3⟩
        obtain ⟨dn, he, hdn'⟩ : ∃ dn, e = .returned (.bool dn) ∧ ((dn = true ∧ Full n N.C) ∨ (dn = false ∧ ¬ Full n N.C)) := by
          rcases hdn with ⟨h1, h2⟩ | ⟨h1, h2⟩
          · exact ⟨true, h1, .inl ⟨rfl, h2⟩⟩
          · exact ⟨false, h1, .inr ⟨rfl, h2⟩⟩
        subst he
        have hB3' := hB0.trans hB3
        have HDN := hide hdn'
        clear hdn hdn' HO1 hB0 hB3 hb0
        go_wp2_with fail
        go_loopg [10, 11, 12] (q1 + q2 + 1) (fun gk s10 s11 _s12 wr => ∃ (t : Nat) (N' : NS) (dn : Bool), s10 = .bool dn ∧ s11 = .int .i64 t ∧ t ≤ q1 + q2 + 1 ∧ gk = q1 + q2 + 1 - t ∧ NI base nb N' n wr ∧ Hid (Handed' N N') ∧ Hid ((dn = true ∧ Full n N'.C) ∨ (dn = false ∧ ¬ Full n N'.C)) ∧ Hid (∀ c, c < n → (t : Int) ≤ sumTo n (N'.C c).cl ∨ (q1 : Int) + q2 ≤ sumTo n (N'.C c).cl) ∧ Below base w1 wr)
        case atStart => exact ⟨0, N, dn, rfl, rfl, by omega, rfl, h3, hide (Handed'.refl N), HDN, hide (fun c hc => .inl (sumTo_zero n (fun k _ => h3.ok.b.cl0 hc k))), hB3'⟩
        case round =>
          clear h3 hB3' HDN
          obtain ⟨t, N', dn, rfl, rfl, htq, hgk, hNI, HH, HDN, HSUM, hB⟩ := hrel
          have hbr : base ≤ wr.heap.size := by rw [← HBS.out]; exact hB.size
          have hwl : N'.wr.length = q1 := by rw [HH.out.wr]; exact HQ1.out
          have hdl : N'.de.length = q2 := by rw [HH.out.de]; exact HQ2.out
          have HWL := hide hwl
          have HDL := hide hdl
          clear hwl hdl
          by_cases hcont : t < q1 + q2 + 1 ∧ dn = false
          · obtain ⟨htl, rfl⟩ := hcont
            have htli : (t : Int) < (q1 : Int) + (q2 : Int) + 1 := by omega
            have HR := hide (roundK base nb n N' wr hNI hbr)
            have HNI := hide hNI
            clear hNI HDN
            go_wp2_with fail
            refine HR.out.mono ?_
            rintro e w4 ⟨rfl, N4, h4, hG4, hD4, hB4⟩
            have hb4 : base ≤ w4.heap.size := Nat.le_trans hbr hB4.size
            have hw4 : N4.wr.length = q1 := by rw [hG4.hd.wr]; exact HWL.out
            have HO1 := hide (oneK base nb n N4 w4 h4 hb4 (by omega))
            have HS4 : Hid (∀ c, c < n → ((t + 1 : Nat) : Int) ≤ sumTo n (N4.C c).cl ∨ (q1 : Int) + q2 ≤ sumTo n (N4.C c).cl) := hide (fun c hc => by
              have := round_near HNI.out hG4 hD4 hc (t := (t : Int)) (by rw [HWL.out, HDL.out]; exact HSUM.out c hc)
              rw [HWL.out, HDL.out] at this
              have e : ((t + 1 : Nat) : Int) = (t : Int) + 1 := by omega
              rw [e]; exact this)
            have HH4 := hide (HH.out.trans hG4.hd)
            clear hG4 hD4 HR h4 hw4
            go_wp2_with fail
            refine HO1.out.mono ?_
            rintro e w5 ⟨hdn, h5, hB5⟩
            obtain ⟨dn, he, hdn'⟩ : ∃ dn, e = .returned (.bool dn) ∧ ((dn = true ∧ Full n N4.C) ∨ (dn = false ∧ ¬ Full n N4.C)) := by
              rcases hdn with ⟨h1, h2⟩ | ⟨h1, h2⟩
              · exact ⟨true, h1, .inl ⟨rfl, h2⟩⟩
              · exact ⟨false, h1, .inr ⟨rfl, h2⟩⟩
            subst he
            have HDN := hide hdn'
            clear hdn hdn' HO1
            go_wp2_with fail
            go_roundg (q1 + q2 + 1 - (t + 1))
            case measure => omega
            case rel => exact ⟨t + 1, N4, dn, rfl, by go_num, by omega, rfl, h5, HH4, HDN, HS4, (hB.trans hB4).trans hB5⟩
          · have hfl : dn = true ∧ Full n N'.C := by
              rcases HDN.out with h1 | ⟨h1, h2⟩
              · exact h1
              · exfalso
                have ht : t = q1 + q2 + 1 := by
                  rcases Nat.lt_or_ge t (q1 + q2 + 1) with q | q
                  · exact (hcont ⟨q, h1⟩).elim
                  · omega
                refine h2 (hNI.ok.full_of (fun c hc => ?_))
                rw [HWL.out, HDL.out]
                rcases HSUM.out c hc with q | q
                · omega
                · exact q
            obtain ⟨rfl, hfull⟩ := hfl
            obtain ⟨x, hx⟩ : ∃ x, N'.cps[0]? = some x := ⟨N'.cps[0]'(by rw [hNI.len]; omega), by simp⟩
            obtain ⟨hI, hxn, -, -⟩ := hNI.inv hx
            have hrun := hNI.tx_run hx (by have := HWL.out; omega)
            have htl := hNI.tx_len hx
            have HFT : Hid (∀ r ∈ N'.wr, (r ∈ tx x.S ↔ r ∉ N'.de)) := hide (fun r hr => by have := hNI.ok.full_tx hfull (i := 0) (by omega) hr; rw [NS.C_at hx] at this; exact this)
            have HSM : Hid (sumTo n x.S.cl = (q1 : Int) + q2) := by
              refine hide ?_
              have e1 : sumTo n x.S.cl = sumTo n (fun i => (N'.C i).cl i) := sumTo_congr n (fun j hj => by rw [← NS.C_at hx]; exact hfull 0 (by omega) j hj)
              rw [e1, hNI.ok.b.sum, HWL.out, HDL.out]
            have HCB : Hid (∀ k, k < n → 0 ≤ x.S.cl k ∧ x.S.cl k ≤ 100) := hide (fun k hk => hI.good.cl k (by omega))
            have HT := hide (qText x wr (hNI.at_.cps 0 x hx) hI)
            have HR := hide (fun w => runesK (tx x.S) hrun htl w)
            have HC := hide (fun w hx => qClock x w hx hI)
            have HOn := hide (fun w (h : NAt base nb N' w) v hv => onceK base nb N' w h (by have := HWL.out; omega) (tx x.S) htl (fun r hr => by have := hNI.ok.tx_mem (i := 0) (by omega) (r := r); rw [NS.C_at hx] at this; exact this hr) (by have := hNI.ok.tx_nodup (i := 0) (by omega); rw [NS.C_at hx] at this; exact this) v hv)
            have HVL' := hide (HH.out.vl.trans HVL.out)
            have HX := hide hx
            obtain ⟨c0, ci⟩ := hNI.at_.ptrs HVL'.out
            have cx := ci 0 x hx
            have hat := hNI.at_
            have hxl := (hat.cps 0 x hx).lt
            have HVW' : Hid (N'.vw = .slice aw q1 cw) := hide (HH.out.vw.trans HVW.out)
            have HVD' : Hid (N'.vd = .slice ad q2 cd) := hide (HH.out.vd.trans HVD.out)
            have HTH := hide (HNth hNI)
            clear ci hx hrun hfull hI HDN HSUM hNI
            have hfacts2 : ((t : Int) < (q1 : Int) + (q2 : Int) + 1) ∨ ¬ ((t : Int) < (q1 : Int) + (q2 : Int) + 1) := by omega
            clear hcont
            rcases hfacts2 with hti | hti
            all_goals
              go_wp2_with fail
              refine HT.out.mono ?_
              rintro e w4 ⟨rfl, hx4, hF4⟩
              obtain ⟨hN4, hB4⟩ := hat.same HX.out hbr hx4 hF4
              go_wp2_with fail
              refine (HR.out w4).mono ?_
              rintro e w5 ⟨v1, rfl, hv1, hg1, g5⟩
              have hN5 := hN4.grown g5
              have hb4 : base ≤ w4.heap.size := Nat.le_trans hbr hB4.size
              have hB5 : Below base w1 w5 := (hB.trans hB4).grown g5 hb4 (by simp)
              have hv1g : ∀ g, v1.ownBlock = some g → wr.heap.size ≤ g := fun g hg => Nat.le_trans hF4.size (hg1 g hg)
              have HO5 := hide (HOn.out w5 hN5 v1 hv1)
              have hb5 : base ≤ w5.heap.size := Nat.le_trans hb4 g5.size
              clear c0 cx hN4 hF4 hB4 hg1 HT HR
              go_wp2_with fail
              refine HO5.out.mono ?_
              rintro e w6 ⟨rfl, g6⟩
              have hN6 := hN5.grown g6
              have hB6 : Below base w1 w6 := hB5.grown g6 hb5 (by simp)
              have hv6 := hv1.grown g6
              have hb6 : base ≤ w6.heap.size := Nat.le_trans hb5 g6.size
              obtain ⟨c06, ci6⟩ := hN6.ptrs HVL'.out
              have cx6 := ci6 0 x HX.out
              clear ci6 hN5 hv1 HO5 HOn hB5
              go_wp2_with fail
              refine (HC.out w6 (hN6.cps 0 x HX.out)).mono ?_
              rintro e w7 ⟨v2, rfl, hv2, -, hx7, hF7⟩
              obtain ⟨hN7, hB7⟩ := hN6.same HX.out hb6 hx7 hF7
              have hB7' := hB6.trans hB7
              have hv7 := hv6.call hxl hv1g hF7
              obtain ⟨a2, cc2, hv2e, -⟩ := hv2.value
              rw [ckRow_len, hxn] at hv2e
              subst hv2e
              obtain ⟨a1, cc1, hv1e, -⟩ := hv7.value
              rw [runeRow_len] at hv1e
              obtain ⟨tl, htle⟩ : ∃ tl, (tx x.S).length = tl := ⟨_, rfl⟩
              rw [htle] at hv1e htl
              have HTLE := hide htle
              subst hv1e
              have k2 : w7.cell? ⟨nb, 2, none⟩ = some (.slice aw q1 cw) := by rw [← HVW'.out]; exact cell_blk hN7.cp 2
              have k3 : w7.cell? ⟨nb, 3, none⟩ = some (.slice ad q2 cd) := by rw [← HVD'.out]; exact cell_blk hN7.cp 3
              clear c06 cx6 hN6 hv6 hF7 hx7 hx4 hB6 hB7 HC hat htle hb4 hb5 g5 g6
              go_wp2_with fail
              go_loopg [15, 17] n (fun gk s15 s17 wq => ∃ (j : Nat) (sm : Int), s15 = .int .i64 sm ∧ s17 = .int .i64 j ∧ j ≤ n ∧ gk = n - j ∧ sm = sumTo j x.S.cl ∧ (0 ≤ sm ∧ sm ≤ 100 * (j : Int)) ∧ wq = w7)
              case atStart => exact ⟨0, 0, rfl, rfl, by omega, rfl, rfl, by omega, rfl⟩
              case round =>
                obtain ⟨j, sm, rfl, rfl, hjn, hgk2, hsm, hsb, rfl⟩ := hrel
                by_cases hjl : j < n
                · have hjli : (j : Int) < (n : Int) := by omega
                  obtain ⟨g1, c1, cur1, hve, -, hb1, hx1⟩ := hv2.cell (i := j) (ckRow_at x.S (by omega))
                  rw [ckRow_len, hxn] at hve
                  cases hve
                  have kk : wr.cell? ⟨g1, j, none⟩ = some (.int .i64 (x.S.cl j)) := (cell_blk hb1 _).trans (by simpa using hx1 0 _ rfl)
                  have hcb := HCB.out j hjl
                  generalize hcj : x.S.cl j = cj at kk hcb
                  have HCJ := hide hcj
                  clear hx1 hb1 hcj
                  have hsum : sumTo (j + 1) x.S.cl = sm + cj := by rw [hsm, ← HCJ.out]; rfl
                  have HSU := hide hsum
                  have HSMJ := hide hsm
                  clear hsum hsm k2 k3
                  go_wp2_with fail
                  go_roundg (n - (j + 1))
                  case measure => omega
                  case rel => exact ⟨j + 1, sm + cj, rfl, by go_num, by omega, rfl, HSU.out.symm, by omega, rfl⟩
                · have hjli : ¬ (j : Int) < (n : Int) := by omega
                  have hjn' : j = n := by omega
                  have hsmv : sm = (q1 : Int) + (q2 : Int) := by rw [hsm, hjn', HSM.out]
                  have hne : (sm != (q1 : Int) + (q2 : Int)) = false := by simp [hsmv]
                  clear hsm hsmv hsb hjn' hv2
                  go_wp2_with fail
                  go_quiet (fail)
                  have g8 : wr.grownBy (wr.drewN nq) none := grown_drewN _ _
                  generalize wr.drewN nq = w8 at g8 ⊢
                  have hN8 := hN7.grown g8
                  have hv8 := hv7.grown g8
                  have hb7 : base ≤ wr.heap.size := by rw [← HBS.out]; exact hB7'.size
                  have hB8 : Below base w1 w8 := hB7'.grown g8 hb7 (by simp)
                  have k28 := cell_of_grown k2 g8
                  have k38 := cell_of_grown k3 g8
                  have HA1 := hide (fun r => atK (tx x.S) (by have := HTLE.out; omega) r (.slice a1 tl cc1) w8 hv8)
                  have HA2 : Hid (∀ r, Calls Tryz.prog 29 #[.slice ad q2 cd, .int .i32 r] w8 fun e w' => e = .returned (.int .i64 (atI N'.de r 0)) ∧ w' = w8) := hide (fun r => by
                    have := atK N'.de (by have := HDL.out; omega) r N'.vd w8 hN8.de
                    rw [HVD'.out] at this
                    exact this)
                  clear hN7 hv7 hB7' hne k2 k3 g8
                  go_wp2_with fail
                  go_loopg [18, 19, 20, 21] q1 (fun gk s18 _s19 _s20 _s21 wq => ∃ (m : Nat), s18 = .int .i64 m ∧ m ≤ q1 ∧ gk = q1 - m ∧ wq = w8)
                  case atStart => exact ⟨0, rfl, by omega, rfl, rfl⟩
                  case round =>
                    obtain ⟨m, rfl, hmq, hgk4, rfl⟩ := hrel
                    by_cases hml : m < q1
                    · have hmli : (m : Int) < (q1 : Int) := by omega
                      obtain ⟨r, hr⟩ : ∃ r, N'.wr[m]? = some r := ⟨N'.wr[m]'(by have := HWL.out; omega), by simp⟩
                      obtain ⟨g1, c1, cur1, hve, -, hb1, hx1⟩ := hN8.wr.cell (i := m) (runeRow_at hr)
                      rw [runeRow_len, HWL.out, HVW'.out] at hve
                      cases hve
                      have kr : wr.cell? ⟨g1, m, none⟩ = some (.int .i32 r) := (cell_blk hb1 _).trans (by simpa using hx1 0 _ rfl)
                      have hft := HFT.out r (List.mem_of_getElem? hr)
                      have hcase : (0 ≤ atI (tx x.S) r 0 ∧ atI N'.de r 0 = -1) ∨ (atI (tx x.S) r 0 = -1 ∧ 0 ≤ atI N'.de r 0) := by
                        by_cases q : r ∈ N'.de
                        · exact .inr ⟨atI_out (fun h => (hft.1 h) q), atI_pos q⟩
                        · exact .inl ⟨atI_pos (hft.2 q), atI_out q⟩
                      have b1 := atI_bd (tx x.S) r
                      have b2 := atI_bd N'.de r
                      have HA1r := hide (HA1.out r)
                      have HA2r := hide (HA2.out r)
                      rw [HTLE.out] at b1
                      rw [HDL.out] at b2
                      generalize atI (tx x.S) r 0 = t1 at HA1r b1 hcase
                      generalize atI N'.de r 0 = t2 at HA2r b2 hcase
                      clear hx1 hb1 hft hr
                      rcases hcase with ⟨u1, rfl⟩ | ⟨rfl, u2⟩
                      · have u1' : ¬ t1 < 0 := by omega
                        go_wp2_with fail
                        refine HA1r.out.mono ?_
                        rintro e w9 ⟨rfl, rfl⟩
                        go_wp2_with fail
                        refine HA2r.out.mono ?_
                        rintro e w9 ⟨rfl, rfl⟩
                        go_wp2_with fail
                        go_roundg (q1 - (m + 1))
                        case measure => omega
                        case rel => exact ⟨m + 1, by go_num, by omega, rfl, rfl⟩
                      · have u2' : ¬ t2 < 0 := by omega
                        go_wp2_with fail
                        refine HA1r.out.mono ?_
                        rintro e w9 ⟨rfl, rfl⟩
                        go_wp2_with fail
                        refine HA2r.out.mono ?_
                        rintro e w9 ⟨rfl, rfl⟩
                        go_wp2_with fail
                        go_roundg (q1 - (m + 1))
                        case measure => omega
                        case rel => exact ⟨m + 1, by go_num, by omega, rfl, rfl⟩
                    · have hmli : ¬ (m : Int) < (q1 : Int) := by omega
                      go_wp2_with fail
                      go_ret
                      exact ⟨rfl, HB1.out.trans (hB8.mono hwb)⟩

end Go.Proofs.YtachmkhbbbmioaaGreat

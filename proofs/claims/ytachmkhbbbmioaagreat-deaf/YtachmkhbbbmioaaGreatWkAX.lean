import Derived.Test.YtachmkhbbbmioaaGreatNetNX
namespace Go.Proofs.YtachmkhbbbmioaaGreat
open Go.RowKit Go.Shelf

/-- An insert, as an operation that is applied. -/
theorem ins_step {S : CS} (hI : Inv S) (hz : ∀ j, S.n ≤ j → S.cl j = 0) (hf : S.cl (S.s - 1) < 100 ∧ S.g < 1099511627776) {A R : List El} (hL : S.L = A ++ R) {r : Int} (hr : Lib.validRune r = true) :
    Ok8 S.n (opIns S (lc A) (lk A) r) ∧ Inv { S with cl := bump S.cl (S.s - 1), g := S.g + 1, L := A ++ behind (newEl S r hr) R, ops := opIns S (lc A) (lk A) r :: S.ops } := by
  have hs1 := hI.good.s1
  have hsn := hI.good.sn
  have hg0 := hI.good.g0
  have hn8 := hI.good.n8
  have hsc := valid_sc hr
  obtain ⟨x, hx⟩ : ∃ x, opIns S (lc A) (lk A) r = x := ⟨_, rfl⟩
  have x0 : x.o = (S.s : Int) := by rw [← hx]; rfl
  have x1 : x.num = S.cl (S.s - 1) + 1 := by rw [← hx]; rfl
  have x2 : x.c = S.g + 1 := by rw [← hx]; rfl
  have x3 : x.kind = 0 := by rw [← hx]; rfl
  have x4 : x.tc = lc A := by rw [← hx]; rfl
  have x5 : x.tk = lk A := by rw [← hx]; rfl
  have x6 : x.r = r := by rw [← hx]; rfl
  have x7 : x.q = S.cl := by rw [← hx]; rfl
  have eo : x.o.toNat - 1 = S.s - 1 := by omega
  have h0i := (hI.good.cl (S.s - 1) (by omega)).1
  have htgt : (x.tc = 0 ∧ x.tk = 0 ∧ x.kind = 0) ∨ (1 ≤ x.tc ∧ x.tc ≤ x.c - 1 ∧ 1 ≤ x.tk ∧ x.tk ≤ S.n) := by
    rw [x4, x5, x3, x2]
    rcases A.eq_nil_or_concat with rfl | ⟨B, y, rfl⟩
    · exact .inl ⟨rfl, rfl, rfl⟩
    · rw [List.concat_eq_append] at *
      obtain ⟨l1, l2, -, -⟩ := last_snoc B y
      have hy : y ∈ S.L := by rw [hL]; simp
      have m1 := hI.good.mark y hy
      have m2 := hI.ops.mkk y hy
      rw [l1, l2]
      right
      omega
  have ok : Ok8 S.n x := by
    refine ⟨by omega, by omega, by omega, by omega, htgt, fun _ => by rw [x6]; exact hsc, fun q => by omega, fun j hj => ?_, fun j hj => ?_, ?_⟩
    · rw [x7]; exact hI.good.cl j (by omega)
    · rw [x7]; exact hz j hj
    · rw [x7, eo, x1]; omega
  have rdy : RdyS S x := by
    refine ⟨by rw [eo, x1], fun j _ => by rw [x7]; exact Int.le_refl _, by rw [x4, x5]; exact hasM_cut hL, .inr ?_⟩
    rw [hasM_false]
    refine ⟨by omega, fun y hy q => ?_⟩
    have := (hI.good.mark y hy).2
    omega
  have e : applyS S x = { S with cl := bump S.cl (S.s - 1), g := S.g + 1, L := A ++ behind (newEl S r hr) R, ops := x :: S.ops } := by
    have e1 : applyL x S.L = A ++ behind (newEl S r hr) R := by
      rw [applyL_cut hI x3 (by rw [x6]; exact hsc) hL x4 x5]
      congr 2
      unfold OpR.el newEl
      congr 1
    unfold applyS
    rw [e1, eo, x2]
    congr 1
    omega
  rw [hx]
  refine ⟨ok, ?_⟩
  rw [← e]
  exact inv_apply hI ok rdy

theorem cut_all {L A R : List El} {p : Nat} (hv : ∀ e ∈ L, e.d = false) (h : CutIs L p A R) : A = L.take p ∧ R = L.drop p := by
  obtain ⟨hL, hA, -, -⟩ := h
  have : vis A = A := List.filter_eq_self.2 (fun e he => by rw [hv e (by rw [hL]; simp [he])]; rfl)
  rw [this] at hA
  subst hA
  rw [hL]
  simp

def insS (S : CS) (p : Nat) (r : Int) (hr : Lib.validRune r = true) : CS := { S with cl := bump S.cl (S.s - 1), g := S.g + 1, L := S.L.take p ++ behind (newEl S r hr) (S.L.drop p), ops := opIns S (lc (S.L.take p)) (lk (S.L.take p)) r :: S.ops }

theorem v97 : Lib.validRune 97 = true := by decide
theorem v98 : Lib.validRune 98 = true := by decide
theorem v99 : Lib.validRune 99 = true := by decide
theorem v120 : Lib.validRune 120 = true := by decide

def wA1 : CS := insS (newS 2 1) 0 97 v97
def wA2 : CS := insS wA1 1 99 v99
def wA3 : CS := insS wA2 1 98 v98
def wB1 : CS := insS (newS 2 2) 0 120 v120

theorem ins_inv {S : CS} (hI : Inv S) (hz : ∀ j, S.n ≤ j → S.cl j = 0) (hf : S.cl (S.s - 1) < 100 ∧ S.g < 1099511627776) (p : Nat) {r : Int} (hr : Lib.validRune r = true) : Inv (insS S p r hr) ∧ (∀ j, (insS S p r hr).n ≤ j → (insS S p r hr).cl j = 0) ∧ Ok8 S.n (opIns S (lc (S.L.take p)) (lk (S.L.take p)) r) := by
  have := ins_step hI hz hf (A := S.L.take p) (R := S.L.drop p) (List.take_append_drop _ _).symm hr
  refine ⟨this.2, fun j hj => ?_, this.1⟩
  show bump S.cl (S.s - 1) j = 0
  have hs1 := hI.good.s1
  have hsn := hI.good.sn
  have hj' : S.n ≤ j := hj
  rw [bump_other _ (by omega)]
  exact hz j hj

theorem new_inv {n s : Nat} (h1 : 1 ≤ s) (h2 : s ≤ n) (h8 : n ≤ 8) : Inv (newS n s) :=
  ⟨newS_good h1 h2 h8, ⟨by simp [newS], fun i _ k k1 k2 => by simp [newS] at k2; omega, by simp [newS], by simp [newS]⟩, ⟨by simp [newS], by simp [newS], by simp [newS]⟩, by simp [newS, sumcl], by simp [newS, sumcl], by simp [newS, Apart]⟩

theorem wA1_inv : Inv wA1 ∧ (∀ j, wA1.n ≤ j → wA1.cl j = 0) ∧ Ok8 2 (opIns (newS 2 1) (lc ((newS 2 1).L.take 0)) (lk ((newS 2 1).L.take 0)) 97) := ins_inv (new_inv (by omega) (by omega) (by omega)) (fun _ _ => rfl) (by decide) 0 v97
theorem wA2_inv : Inv wA2 ∧ (∀ j, wA2.n ≤ j → wA2.cl j = 0) ∧ Ok8 2 (opIns wA1 (lc (wA1.L.take 1)) (lk (wA1.L.take 1)) 99) := ins_inv wA1_inv.1 wA1_inv.2.1 (by decide) 1 v99
theorem wA3_inv : Inv wA3 ∧ (∀ j, wA3.n ≤ j → wA3.cl j = 0) ∧ Ok8 2 (opIns wA2 (lc (wA2.L.take 1)) (lk (wA2.L.take 1)) 98) := ins_inv wA2_inv.1 wA2_inv.2.1 (by decide) 1 v98
theorem wB1_inv : Inv wB1 ∧ (∀ j, wB1.n ≤ j → wB1.cl j = 0) ∧ Ok8 2 (opIns (newS 2 2) (lc ((newS 2 2).L.take 0)) (lk ((newS 2 2).L.take 0)) 120) := ins_inv (new_inv (by omega) (by omega) (by omega)) (fun _ _ => rfl) (by decide) 0 v120

def wo1 : OpR := opIns (newS 2 1) (lc ((newS 2 1).L.take 0)) (lk ((newS 2 1).L.take 0)) 97
def wo2 : OpR := opIns wA1 (lc (wA1.L.take 1)) (lk (wA1.L.take 1)) 99
def wo3 : OpR := opIns wA2 (lc (wA2.L.take 1)) (lk (wA2.L.take 1)) 98

theorem w_miss : miss wA3 wB1.cl = [wo1, wo2, wo3] := by rfl
theorem w_tx : tx wA3 = [97, 98, 99] := by rfl

theorem takes_ready {S : CS} (hw : S.wt = []) {x : OpR} (hr : RdyS S x) : takesS S x = applyS S x := by
  unfold takesS
  have hk : ¬ knownS S x := by
    rintro (⟨y, hy, -⟩ | q)
    · rw [hw] at hy; cases hy
    · have := hr.1; omega
  rw [if_neg hk, if_pos hr, hw]
  rfl

theorem rdy_of {S : CS} {x : OpR} (h1 : x.num = S.cl (x.o.toNat - 1) + 1) (h2 : x.q 0 ≤ S.cl 0 ∧ x.q 1 ≤ S.cl 1 ∧ x.q 2 ≤ S.cl 2 ∧ x.q 3 ≤ S.cl 3 ∧ x.q 4 ≤ S.cl 4 ∧ x.q 5 ≤ S.cl 5 ∧ x.q 6 ≤ S.cl 6 ∧ x.q 7 ≤ S.cl 7) (h3 : hasM x.tc x.tk S.L = true) (h4 : hasM x.c x.o S.L = false) : RdyS S x := by
  refine ⟨h1, fun i hi => ?_, h3, .inr h4⟩
  have : i = 0 ∨ i = 1 ∨ i = 2 ∨ i = 3 ∨ i = 4 ∨ i = 5 ∨ i = 6 ∨ i = 7 := by omega
  rcases this with rfl | rfl | rfl | rfl | rfl | rfl | rfl | rfl
  · exact h2.1
  · exact h2.2.1
  · exact h2.2.2.1
  · exact h2.2.2.2.1
  · exact h2.2.2.2.2.1
  · exact h2.2.2.2.2.2.1
  · exact h2.2.2.2.2.2.2.1
  · exact h2.2.2.2.2.2.2.2

theorem w_takes : takesAll wB1 [wo1, wo2, wo3] = applyS (applyS (applyS wB1 wo1) wo2) wo3 := by
  have r1 : RdyS wB1 wo1 := rdy_of (by decide) (by decide) (by decide) (by decide)
  have r2 : RdyS (applyS wB1 wo1) wo2 := rdy_of (by decide) (by decide) (by decide) (by decide)
  have r3 : RdyS (applyS (applyS wB1 wo1) wo2) wo3 := rdy_of (by decide) (by decide) (by decide) (by decide)
  show takesS (takesS (takesS wB1 wo1) wo2) wo3 = _
  rw [takes_ready rfl r1, takes_ready rfl r2, takes_ready rfl r3]

theorem w_end : tx (applyS (applyS (applyS wB1 wo1) wo2) wo3) = [120, 97, 98, 99] := by rfl

theorem packs_one {n : Nat} : ∀ (l sm : List OpR), (sm ++ l) ≠ [] → ((sm ++ l).flatMap (OpR.bytes n)).length ≤ 114 → packs n sm l = [sm ++ l]
  | [], sm, h, _ => by
    unfold packs
    rw [if_neg (fun q => h (by simpa using List.eq_nil_of_length_eq_zero q))]
    simp
  | x :: l, sm, h, hl => by
    have e : sm ++ x :: l = (sm ++ [x]) ++ l := by simp
    rw [packs_cons, if_neg, e]
    · exact packs_one l (sm ++ [x]) (by simp) (by rw [← e]; exact hl)
    · rw [List.flatMap_append, List.flatMap_cons, List.length_append, List.length_append] at hl
      omega

theorem vbs_ones (l : List Int) (h : ∀ x ∈ l, 0 ≤ x ∧ x < 128) : (vbs l).length = l.length := by
  induction l with
  | nil => rfl
  | cons x l ih =>
    simp only [vbs, List.length_append, List.length_cons]
    rw [vb_one (h x (by simp)), ih (fun y hy => h y (by simp [hy]))]; omega

theorem w_bytes {x : OpR} (h : ∀ y ∈ x.nums ++ clk 2 x.q, 0 ≤ y ∧ y < 128) (hl : (x.nums ++ clk 2 x.q).length = 9) : (x.bytes 2).length = 9 := by
  unfold OpR.bytes
  rw [List.length_append, vbs_ones _ (fun y hy => h y (by simp [hy])), vbs_ones _ (fun y hy => h y (by simp [hy])), ← List.length_append]
  exact hl

theorem w_ans : answers 2 (miss wA3 wB1.cl) = [sealB (66 :: bEnc 2 [wo1, wo2, wo3])] ∧ bOk 2 [wo1, wo2, wo3] ∧ (sealB (66 :: bEnc 2 [wo1, wo2, wo3])).length ≤ 120 := by
  have b1 : (wo1.bytes 2).length = 9 := w_bytes (by decide) (by decide)
  have b2 : (wo2.bytes 2).length = 9 := w_bytes (by decide) (by decide)
  have b3 : (wo3.bytes 2).length = 9 := w_bytes (by decide) (by decide)
  have hb : ([wo1, wo2, wo3].flatMap (OpR.bytes 2)).length ≤ 114 := by
    simp only [List.flatMap_cons, List.flatMap_nil, List.append_nil, List.length_append]
    omega
  have hok : ∀ x ∈ [wo1, wo2, wo3], Ok8 2 x := fun x hx => by
    simp only [List.mem_cons, List.not_mem_nil, or_false] at hx
    rcases hx with rfl | rfl | rfl
    · exact wA1_inv.2.2
    · exact wA2_inv.2.2
    · exact wA3_inv.2.2
  obtain ⟨p1, p2⟩ := pack_ok (by simp) hb hok
  rw [batch_enc] at p2
  refine ⟨?_, p1, p2⟩
  unfold answers
  rw [w_miss, packs_one _ [] (by simp) (by simpa using hb)]
  simp [batch_enc]

end Go.Proofs.YtachmkhbbbmioaaGreat

namespace Go.Proofs.YtachmkhbbbmioaaGreat
open Go.RowKit Go.Shelf

theorem qInsV (x : Cq) (p : Nat) (r : Int) (hp : p ≤ (tx x.S).length) (hr : Lib.validRune r = true) (hf : decide (100 ≤ x.S.cl (x.S.s - 1) ∨ 1099511627776 ≤ x.S.g) = false) (hv : ∀ e ∈ x.S.L, e.d = false) (w : World) (h : x.At w) (hI : Inv x.S) :
    Calls Tryz.prog 54 #[x.ptr, .int .i64 p, .int .i32 r] w fun e w1 => e = .returned (.int .i64 0) ∧ Cq.At { x with S := insS x.S p r hr } w1 ∧ Fr x.own w w1 := by
  refine (qIns x p r hp hr hf w h hI).mono ?_
  rintro e w1 ⟨rfl, A, R, hC, hx, hF⟩
  obtain ⟨rfl, rfl⟩ := cut_all hv hC
  exact ⟨rfl, hx, hF⟩

theorem w_abc : txtR (tx wA3) = [97, 98, 99] := by rw [w_tx]; rfl
theorem w_xabc : txtR (tx (takesAll wB1 [wo1, wo2, wo3])) = [120, 97, 98, 99] := by rw [w_takes, w_end]; rfl

/-- What was done to one copy leaves the other. -/
theorem Cq.At.other {x y : Cq} {w w' : World} (h : y.At w) (hd : ∀ k ∈ y.own, k ∉ x.own) (hF : Fr x.own w w') : y.At w' := h.kept (fun k hk => hF.block k (h.lt k hk) (hd k hk))

set_option maxRecDepth 100000 in
set_option maxHeartbeats 4000000 in
theorem worksK (w : World) : Calls Tryz.prog 18 #[] w fun e w' => e = .returned (.bool true) ∧ Below w.heap.size w w' := by
  have HO := hide (openedK 2 (by omega) (by omega) w)
  have e2 : ((2 : Nat) : Int) = 2 := rfl
  rw [e2] at HO
  go_enter Tryz.func18, Tryz.ntmps18
  go_wp2_with fail
  refine HO.out.mono ?_
  rintro e w1 ⟨nb, rfl, N, hN, hlen, hS, -, -, -, hB1⟩
  obtain ⟨a0, b0, hab⟩ : ∃ a b, N.cps = [a, b] := by
    match N.cps, hlen with
    | [a, b], _ => exact ⟨a, b, rfl⟩
  have ha0 : N.cps[0]? = some a0 := by rw [hab]; rfl
  have hb0 : N.cps[1]? = some b0 := by rw [hab]; rfl
  obtain ⟨gl, cl, hvl⟩ := hN.vlv (by omega)
  rw [hlen] at hvl
  obtain ⟨c0, ci⟩ := hN.ptrs hvl
  have ca := ci 0 a0 ha0
  have cb := ci 1 b0 hb0
  have haA := hN.cps 0 a0 ha0
  have hbA := hN.cps 1 b0 hb0
  have hd1 := (hN.apart ha0).2.1 1 b0 hb0 (by omega)
  have hd2 := (hN.apart hb0).2.1 0 a0 ha0 (by omega)
  have hba := (hN.apart ha0).2.2
  have hbb := (hN.apart hb0).2.2
  have hSa := hS 0 a0 ha0
  have hSb := hS 1 b0 hb0
  obtain ⟨acb, asb, ama, amp, alb, amb, aS⟩ := a0
  obtain ⟨bcb, bsb, bma, bmp, blb, bmb, bS⟩ := b0
  simp only at hSa hSb
  subst hSa hSb
  have hbs : w.heap.size ≤ w1.heap.size := hB1.size
  clear hN hlen hS ci hab ha0 hb0 hvl HO
  have HA1 := hide (fun w h => qInsV ⟨acb, asb, ama, amp, alb, amb, newS 2 1⟩ 0 97 (show 0 ≤ (tx (newS 2 1)).length by decide) v97 (show decide (100 ≤ (newS 2 1).cl ((newS 2 1).s - 1) ∨ 1099511627776 ≤ (newS 2 1).g) = false by decide) (show ∀ e ∈ (newS 2 1).L, e.d = false by decide) w h (new_inv (by omega) (by omega) (by omega)))
  have HA2 := hide (fun w h => qInsV ⟨acb, asb, ama, amp, alb, amb, wA1⟩ 1 99 (show 1 ≤ (tx (wA1)).length by decide) v99 (show decide (100 ≤ (wA1).cl ((wA1).s - 1) ∨ 1099511627776 ≤ (wA1).g) = false by decide) (show ∀ e ∈ (wA1).L, e.d = false by decide) w h wA1_inv.1)
  have HA3 := hide (fun w h => qInsV ⟨acb, asb, ama, amp, alb, amb, wA2⟩ 1 98 (show 1 ≤ (tx (wA2)).length by decide) v98 (show decide (100 ≤ (wA2).cl ((wA2).s - 1) ∨ 1099511627776 ≤ (wA2).g) = false by decide) (show ∀ e ∈ (wA2).L, e.d = false by decide) w h wA2_inv.1)
  have HB1 := hide (fun w h => qInsV ⟨bcb, bsb, bma, bmp, blb, bmb, newS 2 2⟩ 0 120 (show 0 ≤ (tx (newS 2 2)).length by decide) v120 (show decide (100 ≤ (newS 2 2).cl ((newS 2 2).s - 1) ∨ 1099511627776 ≤ (newS 2 2).g) = false by decide) (show ∀ e ∈ (newS 2 2).L, e.d = false by decide) w h (new_inv (by omega) (by omega) (by omega)))
  have HT := hide (fun w h => qText ⟨acb, asb, ama, amp, alb, amb, wA3⟩ w h wA3_inv.1)
  have HK := hide (fun w h => qTick ⟨bcb, bsb, bma, bmp, blb, bmb, wB1⟩ w h wB1_inv.1)
  have HD := hide (fun w h => qHandDig ⟨acb, asb, ama, amp, alb, amb, wA3⟩ 2 (by decide) (show (2 : Int) ≤ (wA3.n : Int) by decide) wB1.cl (fun i hi => wB1_inv.1.good.cl i (Nat.lt_of_lt_of_le hi (show wA3.n ≤ 8 by decide))) w h wA3_inv.1)
  have HBt := hide (fun w h => qHandBat ⟨bcb, bsb, bma, bmp, blb, bmb, wB1⟩ [wo1, wo2, wo3] w_ans.2.1 w_ans.2.2 w h wB1_inv.1)
  have HTB := hide (fun w h => qText ⟨bcb, bsb, bma, bmp, blb, bmb, takesAll wB1 [wo1, wo2, wo3]⟩ w h (inv_takesAll _ wB1_inv.1 w_ans.2.1.2))
  simp only [w_abc] at HT
  simp only [w_xabc] at HTB
  have eD : answers wA3.n (miss wA3 wB1.cl) = [sealB (66 :: bEnc 2 [wo1, wo2, wo3])] := w_ans.1
  simp only [eD] at HD
  generalize hFF : sealB (66 :: bEnc 2 [wo1, wo2, wo3]) = FF at HD
  have hFF' : sealB (66 :: bEnc wB1.n [wo1, wo2, wo3]) = FF := hFF
  simp only [hFF'] at HBt
  have z0 : ((0 : Nat) : Int) = 0 := rfl
  have z1 : ((1 : Nat) : Int) = 1 := rfl
  simp only [z0, z1] at HA1 HA2 HA3 HB1
  have hDD : digest wA3.n 2 wB1.cl = digest wB1.n (wB1.s : Int) wB1.cl := rfl
  simp only [hDD] at HD
  generalize digest wB1.n (wB1.s : Int) wB1.cl = DD at HD HK
  clear eD hFF hFF' z0 z1 e2 hDD
  go_wp2_with fail
  refine (HA1.out w1 haA).mono ?_
  rintro e w2 ⟨rfl, ha2, hF2⟩
  have ha2' : Cq.At ⟨acb, asb, ama, amp, alb, amb, wA1⟩ w2 := ha2
  go_wp2_with fail
  refine (HA2.out w2 ha2').mono ?_
  rintro e w3 ⟨rfl, ha3, hF3⟩
  have ha3' : Cq.At ⟨acb, asb, ama, amp, alb, amb, wA2⟩ w3 := ha3
  go_wp2_with fail
  refine (HA3.out w3 ha3').mono ?_
  rintro e w4 ⟨rfl, ha4, hF4⟩
  have ha4' : Cq.At ⟨acb, asb, ama, amp, alb, amb, wA3⟩ w4 := ha4
  have hFa4 := (hF2.trans hF3).trans hF4
  have hb4 := hbA.other hd1 hFa4
  go_wp2_with fail
  refine (HB1.out w4 hb4).mono ?_
  rintro e w5 ⟨rfl, hb5, hF5⟩
  have hb5' : Cq.At ⟨bcb, bsb, bma, bmp, blb, bmb, wB1⟩ w5 := hb5
  have ha5 := ha4'.other hd2 hF5
  go_wp2_with fail
  refine (HT.out w5 ha5).mono ?_
  rintro e w6 ⟨rfl, ha6, hF6⟩
  have hb6 := hb5'.other hd1 hF6
  go_wp2_with fail
  refine (HK.out w6 hb6).mono ?_
  rintro e w7 ⟨rfl, hb7, hF7⟩
  have ha7 := ha6.other hd2 hF7
  go_wp2_with fail
  refine (HD.out w7 ha7).mono ?_
  rintro e w8 ⟨v, rfl, hv, -, ha8, hF8⟩
  have hb8 := hb7.other hd1 hF8
  obtain ⟨gv, cv, cur, hve, -, hbv, hcv⟩ := hv.cell (i := 0) (x := [str FF]) (by simp [strRow])
  have hlv : (strRow [FF]).length = 1 := rfl
  rw [hlv] at hve
  subst hve
  have r0 : w8.cell? ⟨gv, 0, none⟩ = some (str FF) := (cell_blk hbv _).trans (by simpa using hcv 0 _ rfl)
  clear hcv hbv hv
  have hfin : ∀ (w9 : World), Fr (Cq.own ⟨bcb, bsb, bma, bmp, blb, bmb, wB1⟩) w8 w9 → Below w.heap.size w w9 := fun w9 hF9 => by
    have A1 := hFa4.toBelow (B := w.heap.size) hbs hba
    have s4 := Nat.le_trans hbs hFa4.size
    have A2 := hF5.toBelow (B := w.heap.size) s4 hbb
    have s5 := Nat.le_trans s4 hF5.size
    have A3 := hF6.toBelow (B := w.heap.size) s5 hba
    have s6 := Nat.le_trans s5 hF6.size
    have A4 := hF7.toBelow (B := w.heap.size) s6 hbb
    have s7 := Nat.le_trans s6 hF7.size
    have A5 := hF8.toBelow (B := w.heap.size) s7 hba
    have s8 := Nat.le_trans s7 hF8.size
    have A6 := hF9.toBelow (B := w.heap.size) s8 hbb
    exact ((((((hB1.trans A1).trans A2).trans A3).trans A4).trans A5).trans A6)
  have HFIN := hide hfin
  clear hfin hF2 hF3 hF4 hF5 hF6 hF7 hF8 hFa4 ha2 ha2' ha3 ha3' ha4 ha4' ha5 ha6 ha7 ha8 hb4 hb5 hb5' hb6 hb7 haA hbA hd1 hd2 hba hbb hB1 c0 ca cb HA1 HA2 HA3 HB1 HT HK HD
  go_wp2_with fail
  refine (HBt.out w8 hb8).mono ?_
  rintro e w9 ⟨rfl, hb9, hF9⟩
  go_wp2_with fail
  refine (HTB.out w9 hb9).mono ?_
  rintro e w10 ⟨rfl, -, hF10⟩
  have hB10 := HFIN.out _ (hF9.trans hF10)
  go_wp2_with fail
  go_ret
  exact ⟨rfl, hB10⟩

end Go.Proofs.YtachmkhbbbmioaaGreat

namespace Go.Proofs.YtachmkhbbbmioaaGreat
open Go.RowKit Go.Shelf

/-- An act in memory. -/
def ActK (w : World) (b off i : Nat) (k C A B : Int) : Prop :=
  w.cell? ⟨b, off + i * 4, none⟩ = some (.int .i64 k) ∧ w.cell? ⟨b, off + i * 4 + 1, none⟩ = some (.int .i64 C) ∧ w.cell? ⟨b, off + i * 4 + 2, none⟩ = some (.int .i64 A) ∧ w.cell? ⟨b, off + i * 4 + 3, none⟩ = some (.int .i64 B) ∧
    (-9223372036854775808 ≤ k ∧ k ≤ 9223372036854775807) ∧ (-9223372036854775808 ≤ C ∧ C ≤ 9223372036854775807) ∧ (-9223372036854775808 ≤ A ∧ A ≤ 9223372036854775807) ∧ (-9223372036854775808 ≤ B ∧ B ≤ 9223372036854775807)

/-- A net that has just been opened. -/
theorem NI.new {base nb n : Nat} {N : NS} {w : World} (h1 : 1 ≤ n) (h8 : n ≤ 8) (h : NAt base nb N w) (hl : N.cps.length = n) (hS : ∀ (j : Nat) (x : Cq), N.cps[j]? = some x → x.S = newS n (j + 1)) (ha : N.air = []) (hw : N.wr = []) (hd : N.de = []) : NI base nb N n w := by
  refine ⟨h, hl, ?_, by rw [ha]; simp⟩
  rw [hw, hd]
  refine NetOk.init n h1 h8 N.C (fun i hi => ?_)
  obtain ⟨x, hx⟩ : ∃ x, N.cps[i]? = some x := ⟨N.cps[i]'(by omega), by simp⟩
  rw [NS.C_at hx, hS i x hx]
  rfl

/-- How great a net has become behind so many acts. -/
structure FitN (N : NS) (i : Nat) : Prop where
  cnt : N.wr.length + N.de.length ≤ i
  air : N.air.length ≤ 1000 * i

theorem FitN.next {N N' : NS} {i : Nat} (h : FitN N i) (hn : NextN N N') : FitN N' (i + 1) := ⟨by have := h.cnt; have := hn.cnt; omega, by have := h.air; have := hn.air; omega⟩

set_option maxRecDepth 100000 in
set_option maxHeartbeats 4000000 in
theorem agreed_k (c : Int) (hc1 : -9223372036854775808 ≤ c) (hc2 : c ≤ 9223372036854775807) (a : Option Addr) (len cap : Nat) (hlen : len ≤ 9223372036854775807) (w : World)
    (hs : ∀ i, i < len → ∃ b off k C A B, a = some ⟨b, off, none⟩ ∧ b < w.heap.size ∧ ActK w b off i k C A B) :
    Calls Tryz.prog 7 #[.int .i64 c, .slice a len cap] w fun e w' => e = .returned (.bool true) ∧ Below w.heap.size w w' := by
  have HW := hide (worksK w)
  have hp3 := pkK_lt c (n := 3) (by omega)
  have HP := hide (fun w => pickK c 3 (by omega) (by omega) hc1 hc2 w)
  generalize pkK c 3 = q at hp3 HP
  have e3 : ((3 : Nat) : Int) = 3 := rfl
  rw [e3] at HP
  obtain ⟨n, hn⟩ : ∃ n : Nat, 2 + (q : Int) = (n : Int) := ⟨2 + q, by omega⟩
  have hn4 : 2 ≤ n ∧ n ≤ 4 := by omega
  have HO := hide (fun w => openedK n (by omega) (by omega) w)
  have HS := hide hs
  clear hs e3
  go_enter Tryz.func7, Tryz.ntmps7
  go_wp2_with fail
  refine HW.out.mono ?_
  rintro e w1 ⟨rfl, hB1⟩
  go_wp2_with (go_at_call 20; refine (HP.out _).mono ?_; rintro e w' ⟨rfl, hw⟩; rw [hw]; clear hw w')
  refine (HO.out w1).mono ?_
  rintro e w2 ⟨nb, rfl, N0, hN0, hl0, hS0, ha0, hw0, hd0, hB2⟩
  have hNI0 := NI.new (by omega) (by omega) hN0 hl0 hS0 ha0 hw0 hd0
  have hfit0 : FitN N0 0 := ⟨by rw [hw0, hd0]; simp, by rw [ha0]; simp⟩
  obtain ⟨base, hbase⟩ : ∃ base, w1.heap.size = base := ⟨_, rfl⟩
  rw [hbase] at hNI0 hB2
  have hwb : w.heap.size ≤ base := by rw [← hbase]; exact hB1.size
  have hb2 : base ≤ w2.heap.size := by rw [← hbase]; exact hB2.size
  have HB1 := hide hB1
  have HBS := hide hbase
  clear hN0 hl0 hS0 ha0 hw0 hd0 HW HP HO hB1 hbase hn
  go_wp2_with fail
  go_loopg [7, 8, 9] 80 (fun gk s7 _s8 _s9 wr => ∃ (i : Nat) (N : NS), s7 = .int .i64 i ∧ i ≤ len ∧ i ≤ 80 ∧ gk = 80 - i ∧ FitN N i ∧ NI base nb N n wr ∧ Below base w1 wr)
  case atStart => exact ⟨0, N0, rfl, by omega, by omega, rfl, hfit0, hNI0, hB2⟩
  case round =>
    clear hfit0 hNI0 hB2
    obtain ⟨i, N, rfl, hil, hi80, hgk, hft, hNI, hB⟩ := hrel
    have hbr : base ≤ wr.heap.size := by rw [← HBS.out]; exact hB.size
    have f1 := hft.cnt
    have f2 := hft.air
    by_cases hlt : i < len ∧ i < 80
    · obtain ⟨hlt, hl80⟩ := hlt
      have hli : (i : Int) < (len : Int) := by omega
      have hli8 : (i : Int) < 80 := by omega
      obtain ⟨b, off, k, C, A, B, hae, hbw, d0, d1, d2, d3, rk, rC, rA, rB⟩ := HS.out i hlt
      have kc : ∀ (o : Nat) (v : Value), w.cell? ⟨b, o, none⟩ = some v → wr.cell? ⟨b, o, none⟩ = some v := fun o v hv => (hB.cell (p := ⟨b, o, none⟩) (show b < base by omega)).trans ((HB1.out.cell (p := ⟨b, o, none⟩) hbw).trans hv)
      have r0 := kc _ _ d0
      have r1 := kc _ _ d1
      have r2 := kc _ _ d2
      have r3 := kc _ _ d3
      have HA := hide (actK base nb n N k C A B wr hNI hbr (by omega) (by omega) rk.1 rk.2 rC.1 rC.2 rA.1 rA.2 rB.1 rB.2)
      clear d0 d1 d2 d3 kc HS hNI
      subst hae
      go_wp2_with fail
      refine HA.out.mono ?_
      rintro e w3 ⟨rfl, N', h3, hn3, hB3⟩
      have hft3 := hft.next hn3
      have hb3 : base ≤ w3.heap.size := Nat.le_trans hbr hB3.size
      have f3 := hft3.cnt
      have HG := hide (agreesK base nb n N' w3 h3 hb3 (by omega))
      clear h3 r0 r1 r2 r3 HA
      go_wp2_with fail
      refine HG.out.mono ?_
      rintro e w4 ⟨rfl, h4, hB4⟩
      go_wp2_with fail
      go_roundg (80 - (i + 1))
      case measure => omega
      case rel => exact ⟨i + 1, N', by go_num, by omega, by omega, rfl, hft3, h4, (hB.trans hB3).trans hB4⟩
    · have hBf : Below w.heap.size w wr := HB1.out.trans (hB.mono hwb)
      clear hNI HS
      by_cases hl : i < len
      · have hli : (i : Int) < (len : Int) := by omega
        have hli8 : ¬ (i : Int) < 80 := by omega
        go_wp2_with fail
        go_ret
        exact ⟨rfl, hBf⟩
      · have hli : ¬ (i : Int) < (len : Int) := by omega
        go_wp2_with fail
        go_ret
        exact ⟨rfl, hBf⟩

end Go.Proofs.YtachmkhbbbmioaaGreat

namespace Go.Proofs.YtachmkhbbbmioaaGreat
open Go.RowKit Go.Shelf

/-- All that a net holds lies below H. -/
structure NLt (H nb : Nat) (N : NS) : Prop where
  own : ∀ k ∈ N.own nb, k < H
  cps : ∀ (j : Nat) (x : Cq), N.cps[j]? = some x → ∀ k ∈ x.own, k < H

theorem NAt.nlt {base nb : Nat} {N : NS} {w : World} (h : NAt base nb N w) : NLt w.heap.size nb N := ⟨h.lo, fun j x hj => (h.cps j x hj).lt⟩
theorem NLt.mono {H H' nb : Nat} {N : NS} (h : NLt H nb N) (hh : H ≤ H') : NLt H' nb N := ⟨fun k hk => Nat.lt_of_lt_of_le (h.own k hk) hh, fun j x hj k hk => Nat.lt_of_lt_of_le (h.cps j x hj k hk) hh⟩
theorem NLt.handed {H nb : Nat} {N N' : NS} (h : NLt H nb N) (hd : Handed' N N') : NLt H nb N' := by
  refine ⟨fun k hk => h.own k ?_, fun j x hj k hk => ?_⟩
  · unfold NS.own at hk ⊢
    rw [hd.vl, hd.va, hd.vw, hd.vd] at hk
    exact hk
  · have hl := (List.getElem?_eq_some_iff.1 hj).1
    rw [hd.cps] at hl
    obtain ⟨y, hy⟩ : ∃ y, N.cps[j]? = some y := ⟨N.cps[j], by simp⟩
    obtain ⟨S, hS⟩ := hd.own j y hy
    rw [hj] at hS
    cases hS
    exact h.cps j y hy k hk

theorem NAt.keptH {base nb H : Nat} {N : NS} {w w' : World} (h : NAt base nb N w) (hl : NLt H nb N) (e : ∀ k, k < H → w'.heap[k]? = w.heap[k]?) : NAt base nb N w' :=
  ⟨(e nb (hl.own nb (by simp [NS.own]))).trans h.cp, h.l.kept (fun g hg => e g (hl.own g (by simp [NS.own, hg]))), h.ar.kept (fun g hg => e g (hl.own g (by simp [NS.own, hg]))), h.wr.kept (fun g hg => e g (hl.own g (by simp [NS.own, hg]))), h.de.kept (fun g hg => e g (hl.own g (by simp [NS.own, hg]))), fun j x hj => (h.cps j x hj).kept (fun k hk => e k (hl.cps j x hj k hk)), h.wd, h.ow⟩

theorem NI.keptH {base nb n H : Nat} {N : NS} {w w' : World} (h : NI base nb N n w) (hl : NLt H nb N) (e : ∀ k, k < H → w'.heap[k]? = w.heap[k]?) : NI base nb N n w' := ⟨h.at_.keptH hl e, h.len, h.ok, h.air⟩

end Go.Proofs.YtachmkhbbbmioaaGreat

namespace Go.Proofs.YtachmkhbbbmioaaGreat
open Go.RowKit Go.Shelf

set_option maxRecDepth 100000 in
set_option maxHeartbeats 8000000 in
theorem deaf_k (c : Int) (hc1 : -9223372036854775808 ≤ c) (hc2 : c ≤ 9223372036854775807) (a : Option Addr) (len cap : Nat) (hlen : len ≤ 9223372036854775807) {p mo : Int} (hp1 : -9223372036854775808 ≤ p) (hp2 : p ≤ 9223372036854775807) (w : World)
    (hs : ∀ i, i < len → ∃ b off k C A B, a = some ⟨b, off, none⟩ ∧ b < w.heap.size ∧ ActK w b off i k C A B) :
    Calls Tryz.prog 9 #[.int .i64 c, .slice a len cap, .int .i64 p, .int .i64 mo] w fun e w' => e = .returned (.bool true) ∧ Below w.heap.size w w' := by
  have HW := hide (worksK w)
  have hp3 := pkK_lt c (n := 3) (by omega)
  have HP := hide (fun w => pickK c 3 (by omega) (by omega) hc1 hc2 w)
  generalize pkK c 3 = q at hp3 HP
  have e3 : ((3 : Nat) : Int) = 3 := rfl
  rw [e3] at HP
  obtain ⟨n, hn⟩ : ∃ n : Nat, 2 + (q : Int) = (n : Int) := ⟨2 + q, by omega⟩
  have hn4 : 2 ≤ n ∧ n ≤ 4 := by omega
  have HO := hide (fun w => openedK n (by omega) (by omega) w)
  have HS := hide hs
  clear hs e3
  go_enter Tryz.func9, Tryz.ntmps9
  go_wp2_with fail
  refine HW.out.mono ?_
  rintro e w1 ⟨rfl, hB1⟩
  go_wp2_with (go_at_call 20; refine (HP.out _).mono ?_; rintro e w' ⟨rfl, hw⟩; rw [hw]; clear hw w')
  refine (HO.out w1).mono ?_
  rintro e w2 ⟨nb, rfl, N0, hN0, hl0, hS0, ha0, hw0, hd0, hB2⟩
  have hNI0 := NI.new (by omega) (by omega) hN0 hl0 hS0 ha0 hw0 hd0
  have hfit0 : FitN N0 0 := ⟨by rw [hw0, hd0]; simp, by rw [ha0]; simp⟩
  obtain ⟨base, hbase⟩ : ∃ base, w1.heap.size = base := ⟨_, rfl⟩
  rw [hbase] at hNI0 hB2
  have hwb : w.heap.size ≤ base := by rw [← hbase]; exact hB1.size
  have hb2 : base ≤ w2.heap.size := by rw [← hbase]; exact hB2.size
  have HB1 := hide hB1
  have HBS := hide hbase
  clear hN0 hl0 hS0 ha0 hw0 hd0 HW HP HO hB1 hbase hn
  go_wp2_with fail
  go_loopg [11, 12] 40 (fun gk s11 _s12 wr => ∃ (i : Nat) (N : NS), s11 = .int .i64 i ∧ i ≤ len ∧ i ≤ 40 ∧ gk = 40 - i ∧ FitN N i ∧ NI base nb N n wr ∧ Below base w1 wr)
  case atStart => exact ⟨0, N0, rfl, by omega, by omega, rfl, hfit0, hNI0, hB2⟩
  case round =>
    clear hfit0 hNI0 hB2
    obtain ⟨i, N, rfl, hil, hi80, hgk, hft, hNI, hB⟩ := hrel
    have hbr : base ≤ wr.heap.size := by rw [← HBS.out]; exact hB.size
    have f1 := hft.cnt
    have f2 := hft.air
    by_cases hlt : i < len ∧ i < 40
    · obtain ⟨hlt, hl80⟩ := hlt
      have hli : (i : Int) < (len : Int) := by omega
      have hli8 : (i : Int) < 40 := by omega
      obtain ⟨b, off, k, C, A, B, hae, hbw, d0, d1, d2, d3, rk, rC, rA, rB⟩ := HS.out i hlt
      have kc : ∀ (o : Nat) (v : Value), w.cell? ⟨b, o, none⟩ = some v → wr.cell? ⟨b, o, none⟩ = some v := fun o v hv => (hB.cell (p := ⟨b, o, none⟩) (show b < base by omega)).trans ((HB1.out.cell (p := ⟨b, o, none⟩) hbw).trans hv)
      have r0 := kc _ _ d0
      have r1 := kc _ _ d1
      have r2 := kc _ _ d2
      have r3 := kc _ _ d3
      have HA := hide (actK base nb n N k C A B wr hNI hbr (by omega) (by omega) rk.1 rk.2 rC.1 rC.2 rA.1 rA.2 rB.1 rB.2)
      clear d0 d1 d2 d3 kc HS hNI
      subst hae
      go_wp2_with fail
      refine HA.out.mono ?_
      rintro e w3 ⟨rfl, N', h3, hn3, hB3⟩
      have hft3 := hft.next hn3
      clear r0 r1 r2 r3 HA
      go_wp2_with fail
      go_roundg (40 - (i + 1))
      case measure => omega
      case rel => exact ⟨i + 1, N', by go_num, by omega, by omega, rfl, hft3, h3, hB.trans hB3⟩
    · have hK90 : N.wr.length ≤ 90 := by omega
      have hNL := hNI.at_.nlt
      obtain ⟨gl, cl, hvl0⟩ := hNI.at_.vlv (by rw [hNI.len]; omega)
      rw [hNI.len] at hvl0
      have HVL := hide hvl0
      obtain ⟨H, hH⟩ : ∃ H, wr.heap.size = H := ⟨_, rfl⟩
      rw [hH] at hNL hbr
      have hfacts : ((i : Int) < (len : Int) ∧ ¬ (i : Int) < 40) ∨ ¬ (i : Int) < (len : Int) := by omega
      clear hlt
      rcases hfacts with ⟨hli, hli8⟩ | hli
      all_goals
        clear HS hvl0 hgk hft f1 f2
        go_wp2_with fail
        go_loopg [13, 14, 15, 16, 17] n (fun gk s13 s14 _s15 _s16 _s17 wr => ∃ (j : Nat) (N' : NS) (AL : List (List UInt8)) (v : Value), s13 = v ∧ s14 = .int .i64 j ∧ j ≤ n ∧ gk = n - j ∧ NI base nb N' n wr ∧ NLt H nb N' ∧ Hid (N'.vl = N.vl ∧ N'.wr = N.wr) ∧ Below base w1 wr ∧ H ≤ wr.heap.size ∧ RowAt 9 1 v (strRow AL) wr ∧ (∀ g, v.ownBlock = some g → H ≤ g) ∧ AL.length ≤ 1001 * j ∧ ∀ s ∈ AL, DgOk n (Gm n N'.C) s)
        case atStart => exact ⟨0, N, [], _, rfl, rfl, by omega, rfl, hNI, hNL, hide ⟨rfl, rfl⟩, hB, by omega, strNil _, by simp [Value.ownBlock], by simp, by simp⟩
        case round =>
          clear hNI hNL hB hli
          obtain ⟨j, N', AL, v, rfl, rfl, hjn, hgk, hNI, hNL, HE, hB, hHw, hrow, hown, hAL, hdg⟩ := hrel
          have hbw : base ≤ wr.heap.size := by rw [← HBS.out]; exact hB.size
          obtain ⟨c0, ci⟩ := hNI.at_.ptrs (HE.out.1.trans HVL.out)
          obtain ⟨av, cv, hve, -⟩ := hrow.value
          rw [strRow_len] at hve
          obtain ⟨q1, hq1⟩ : ∃ q1, AL.length = q1 := ⟨_, rfl⟩
          rw [hq1] at hve hAL
          by_cases hjl : j < n
          · have hji : (j : Int) < (n : Int) := by omega
            obtain ⟨x, hx⟩ : ∃ x, N'.cps[j]? = some x := ⟨N'.cps[j]'(by rw [hNI.len]; exact hjl), by simp⟩
            obtain ⟨x0, hx0⟩ : ∃ x, N'.cps[0]? = some x := ⟨N'.cps[0]'(by rw [hNI.len]; omega), by simp⟩
            have cx := ci j x hx
            obtain ⟨hI, hxn, hxs, -⟩ := hNI.inv hx
            have HT := hide (qTick x wr (hNI.at_.cps j x hx) hI)
            have HX := hide hx
            have HX0 := hide hx0
            have HNI := hide hNI
            have HQ1 := hide hq1
            have hdD : DgOk n (Gm n N'.C) (digest x.S.n x.S.s x.S.cl) := by
              have := hNI.ok.dig_ok hjl
              rw [NS.C_at hx] at this
              rw [hxn]
              exact .inl ⟨_, this, rfl⟩
            generalize digest x.S.n x.S.s x.S.cl = D at hdD HT
            have hDne := hdD.ne
            have hDe : D.isEmpty = false := by cases D with
              | nil => exact (hDne rfl).elim
              | cons a l => rfl
            have HDG := hide hdD
            have HDA := hide hdg
            subst hve
            have HROW := hide hrow
            clear ci hx hx0 hNI hI hxs hdD hdg hDne hq1 hrow
            go_wp2_with fail
            refine HT.out.mono ?_
            rintro e w3 ⟨rfl, hx3, hF3⟩
            obtain ⟨hN3, hB3⟩ := HNI.out.at_.same HX.out hbw hx3 hF3
            have h3 : NI base nb N' n w3 := ⟨hN3, HNI.out.len, HNI.out.ok, HNI.out.air⟩
            have hrow3 := HROW.out.call (hNL.cps j x HX.out) hown hF3
            have hH3 : H ≤ w3.heap.size := Nat.le_trans hHw hF3.size
            have hb3 : base ≤ w3.heap.size := Nat.le_trans hbw hF3.size
            have g6 : w3.grownBy (w3.alloc (.cells #[str D] 9)) none := grown_alloc (grown_refl _) _
            have hS6 : SrcAt (w3.alloc (.cells #[str D] 9)) (.slice (some ⟨w3.heap.size, 0, none⟩) 1 1) (strRow [D]) := src_new w3 [str D] _
            have hR6 := hrow3.grown g6
            have hlq : (strRow AL).length = q1 := by rw [strRow_len, HQ1.out]
            clear c0 cx hN3 hrow3 HT
            go_upto_region 16 with fail
            go_upto_region 17 with (at_builtin; refine wpList_row Tryz.underlying26 infoStr rfl (by decide) rfl _ _ rfl (.slice av q1 cv) _ rfl hR6 _ _ rfl hS6 (strRow_one _) (strRow_cell _) (by rw [hlq, strRow_len]; unfold maxLen; simp; omega) (by rw [hlq, strRow_len]; simp; omega) ?_; intro v' w4 hR4 hg4 hat4)
            have e4 : ∀ k, k < H → w4.heap[k]? = w3.heap[k]? := fun k hk => (hg4.block k (by simp; omega) (fun q => by have := hown k q.symm; omega)).trans (g6.block k (by omega) (by simp))
            have h4 := h3.keptH hNL e4
            have hs4 : w3.heap.size ≤ w4.heap.size := Nat.le_trans g6.size hg4.size
            have hB4 : Below base w3 w4 := ((Below.refl base w3).grown g6 hb3 (by simp)).grown hg4 (by simp; omega) (fun k hk => by have := hown k hk; omega)
            have hown4 : ∀ g, v'.ownBlock = some g → H ≤ g := fun g hg => by
              rcases hat4 with q | q
              · exact hown g (q ▸ hg)
              · rw [q] at hg; cases hg; simp; omega
            rw [← strRow_append] at hR4
            obtain ⟨av4, cv4, hve4, -⟩ := hR4.value
            rw [strRow_len] at hve4
            have hl4 : (AL ++ [D]).length = q1 + 1 := by simp [HQ1.out]
            rw [hl4] at hve4
            subst hve4
            have hb4 : base ≤ w4.heap.size := Nat.le_trans hb3 hs4
            have HH := hide (handK base nb n N' 0 x0 w4 h4 HX0.out hb4 D HDG.out)
            obtain ⟨c04, ci4⟩ := h4.at_.ptrs (HE.out.1.trans HVL.out)
            have cx4 := ci4 0 x0 HX0.out
            have HR4 := hide hR4
            clear ci4 hR6 hS6 g6 hg4 hat4 h3 hR4 e4 hl4
            go_wp2_with fail
            refine HH.out.mono ?_
            rintro e w5 ⟨u, rfl, AN, N5, hRu, hOu, hALN, h5, hHd, hdA, hgm, hF5, hB5⟩
            have hR5 := HR4.out.call (hNL.cps 0 x0 HX0.out) hown4 hF5
            have hNL5 := hNL.handed hHd
            have hb5 : base ≤ w5.heap.size := Nat.le_trans hb4 hF5.size
            have hH5 : H ≤ w5.heap.size := Nat.le_trans (Nat.le_trans hH3 hs4) hF5.size
            have hSu := hRu.src
            have hlq5 : (strRow (AL ++ [D])).length = q1 + 1 := by rw [strRow_len]; simp [HQ1.out]
            have hlA : (strRow AN).length ≤ 1000 := by rw [strRow_len]; exact hALN
            obtain ⟨au, cu, hue, -⟩ := hRu.value
            rw [strRow_len] at hue
            obtain ⟨la, hla⟩ : ∃ la, AN.length = la := ⟨_, rfl⟩
            rw [hla] at hue hALN
            have HLA := hide hla
            subst hue
            have HFIN : Hid (∀ t ∈ (AL ++ [D]) ++ AN, DgOk n (Gm n N5.C) t) := hide (fun t ht => by
              rcases List.mem_append.1 ht with ht | ht
              · rcases List.mem_append.1 ht with ht | ht
                · exact (HDA.out t ht).mono hgm
                · rw [List.mem_singleton.1 ht]; exact HDG.out.mono hgm
              · exact hdA t ht)
            have hB15 : Below base w1 w5 := ((hB.trans hB3).trans hB4).trans hB5
            clear c04 cx4 HH hRu hOu hla hdA hgm h4 hF5 hF3 hx3 hB5 hB4 hB3 hB HR4 HROW HDA
            go_upto_region 20 with fail
            go_wp2_with (at_builtin; refine wpList_row Tryz.underlying26 infoStr rfl (by decide) rfl _ _ rfl (.slice av4 (q1 + 1) cv4) _ rfl hR5 _ _ rfl hSu (strRow_one _) (strRow_cell _) (by rw [hlq5]; unfold maxLen; omega) (by rw [hlq5]; omega) ?_; intro v6 w6 hR6 hg6 hat6)
            have e6 : ∀ k, k < H → w6.heap[k]? = w5.heap[k]? := fun k hk => hg6.block k (by omega) (fun q => by have := hown4 k q.symm; omega)
            have h6 := h5.keptH hNL5 e6
            have hB6 : Below base w5 w6 := (Below.refl base w5).grown hg6 hb5 (fun k hk => by have := hown4 k hk; omega)
            have hown6 : ∀ g, v6.ownBlock = some g → H ≤ g := fun g hg => by
              rcases hat6 with q | q
              · exact hown4 g (q ▸ hg)
              · rw [q] at hg; cases hg; omega
            rw [← strRow_append] at hR6
            go_roundg (n - (j + 1))
            case measure => omega
            case rel => exact ⟨j + 1, N5, (AL ++ [D]) ++ AN, v6, rfl, by go_num, by omega, rfl, h6, hNL5, hide ⟨hHd.vl.trans HE.out.1, hHd.wr.trans HE.out.2⟩, hB15.trans hB6, Nat.le_trans hH5 hg6.size, hR6, hown6, by have := HQ1.out; have := HLA.out; simp; omega, HFIN.out⟩
          · have hji : ¬ (j : Int) < (n : Int) := by omega
            have HN' := hide hNI
            have HE2 := hide (hNI.ok.b.n8)
            have HQ1 := hide hq1
            have HDA := hide hdg
            have hpn := pkK_lt p (n := n) (by omega)
            have HPn := hide (fun w => pickK p n (by omega) (by omega) hp1 hp2 w)
            generalize pkK p n = ix at hpn HPn
            obtain ⟨x, hx⟩ : ∃ x, N'.cps[ix]? = some x := ⟨N'.cps[ix]'(by rw [hNI.len]; exact hpn), by simp⟩
            have HX := hide hx
            have hq1b : q1 ≤ 100000 := by omega
            have hwrl : N'.wr.length ≤ 100 := by rw [HE.out.2]; omega
            subst hve
            clear ci hx hq1 hdg hAL
            go_wp2_with fail
            clear c0
            go_loopg [18, 19, 20, 21, 22] q1 (fun gk s18 _s19 _s20 _s21 _s22 wr => ∃ (i : Nat), s18 = .int .i64 i ∧ i ≤ q1 ∧ gk = q1 - i ∧ NI base nb N' n wr ∧ Below base w1 wr ∧ RowAt 9 1 (.slice av q1 cv) (strRow AL) wr)
            case atStart => exact ⟨0, rfl, by omega, rfl, hNI, hB, hrow⟩
            case round =>
              clear hNI hB hrow hbw hHw
              obtain ⟨i, rfl, hiq, hgk3, hNI, hB, hrow⟩ := hrel
              have hbr : base ≤ wr.heap.size := by rw [← HBS.out]; exact hB.size
              by_cases hil2 : i < q1
              · have hii : (i : Int) < (q1 : Int) := by omega
                obtain ⟨s, hs⟩ : ∃ s, AL[i]? = some s := ⟨AL[i]'(by have := HQ1.out; omega), by simp⟩
                have hdS := HDA.out s (List.mem_of_getElem? hs)
                have hsne := hdS.ne
                have hsl := hdS.len HE2.out
                have hse : s.isEmpty = false := by cases s with
                  | nil => exact (hsne rfl).elim
                  | cons a l => rfl
                have hs0 : 0 < s.length := by cases s with
                  | nil => exact (hsne rfl).elim
                  | cons a l => simp
                have HDS := hide hdS
                obtain ⟨gv, cv', cur, hve, -, hbv, hcv⟩ := hrow.cell (i := i) (x := [str s]) (by simp [strRow, hs])
                rw [strRow_len, HQ1.out] at hve
                cases hve
                obtain ⟨c0, ci⟩ := hNI.at_.ptrs (HE.out.1.trans HVL.out)
                have cx := ci ix x HX.out
                have r0 : wr.cell? ⟨gv, i, none⟩ = some (str s) := (cell_blk hbv _).trans (by simpa using hcv 0 _ rfl)
                clear hcv hbv hs hdS hsne ci
                go_wp2_with fail
                go_cut [19] (fun s19 wx => s19 = x.ptr ∧ wr.grownBy wx none)
                case first =>
                  go_region_held3 (fun w' => w'.cell? ⟨nb, 0, none⟩ = some (.slice (some ⟨gl, 0, none⟩) n cl) ∧ w'.cell? ⟨gl, ix, none⟩ = some x.ptr) (go_keep)
                    (first | (go_at_call 20; refine (HPn.out _).mono ?_; rintro e w' ⟨rfl, hw⟩; rw [hw]; clear hw w'))
                  all_goals
                    go_wp2_with fail
                    go_meet
                    exact ⟨rfl, grown_drew (grown_refl _)⟩
                case rest =>
                obtain ⟨rfl, g5⟩ := hcut
                have h5 := hNI.grown g5
                have hb5 : base ≤ wc.heap.size := Nat.le_trans hbr g5.size
                have hB5 : Below base w1 wc := hB.grown g5 hbr (by simp)
                have hrow5 := hrow.grown g5
                have r5 := cell_of_grown r0 g5
                have HSp := hide (spoiltK s hs0 (by omega) p hp1 hp2 wc)
                have HDf := hide (fun (w6 : World) (h6 : NI base nb N' n w6) (hb6 : base ≤ w6.heap.size) (D : List UInt8) (hD : NoFr n D) => deafK base nb n N' ix x w6 h6 HX.out hb6 D hD)
                clear c0 cx r0 hNI hB hrow g5
                go_wp2_with fail
                refine HSp.out.mono ?_
                rintro e w6 ⟨t, rfl, ⟨A', R', x1, y1, hse1, hte1, hxy⟩, g6⟩
                have hNo : NoFr n t := by rw [hte1]; exact turned_no (G := Gm n N'.C) hxy (by rw [← hse1]; exact HDS.out)
                have HD6 := hide (HDf.out w6 (h5.grown g6) (Nat.le_trans hb5 g6.size) t hNo)
                have hrow6 := hrow5.grown g6
                have hB6 : Below base w1 w6 := hB5.grown g6 hb5 (by simp)
                have hb6 : base ≤ w6.heap.size := Nat.le_trans hb5 g6.size
                clear hse1 hte1 hNo h5 hrow5 r5 HSp hB5 g6
                go_wp2_with fail
                refine HD6.out.mono ?_
                rintro e w7 ⟨rfl, h7, hB7, hF7⟩
                have hrow7 := hrow6.call (hNL.cps ix x HX.out) hown hF7
                have hb7 : base ≤ w7.heap.size := Nat.le_trans hb6 hB7.size
                have hB7' := hB6.trans hB7
                have hX : 0 ≤ mo % 256 ∧ mo % 256 < 256 := by omega
                have hcv := fun (w : World) (a : Nat) (h : w.cell? ⟨a, 0, none⟩ = some (.int .u8 (mo % 256))) => @conv1 w a _ h hX.1 hX.2
                have hBB : ((⟨s.toArray⟩ : ByteArray) ++ ⟨#[UInt8.ofNat (mo % 256).toNat]⟩) = ⟨(s ++ [UInt8.ofNat (mo % 256).toNat]).toArray⟩ := by
                  apply ByteArray.ext
                  simp [ByteArray.data_append]
                have hNo2 : NoFr n (s ++ [UInt8.ofNat (mo % 256).toNat]) := more_no HE2.out HDS.out _
                clear HD6 hrow6 hB6 hB7 hF7 hb6
                go_wp2_with fail
                have g8 : w7.grownBy (w7.alloc (.cells #[.int .u8 (mo % 256)] 5)) none := grown_alloc (grown_refl _) _
                refine (HDf.out _ (h7.grown g8) (Nat.le_trans hb7 g8.size) _ hNo2).mono ?_
                rintro e w9 ⟨rfl, h9, hB9, hF9⟩
                have hrow9 := (hrow7.grown g8).call (hNL.cps ix x HX.out) hown hF9
                have hB9' : Below base w1 w9 := (hB7'.grown g8 hb7 (by simp)).trans hB9
                clear hcv hBB hNo2 hX h7 hrow7 hB7' hB9 hF9 g8 HDf
                go_wp2_with fail
                go_roundg (q1 - (i + 1))
                case measure => omega
                case rel => exact ⟨i + 1, by go_num, by omega, rfl, h9, hB9', hrow9⟩
              · have hii : ¬ (i : Int) < (q1 : Int) := by omega
                have HG := hide (agreesK base nb n N' wr hNI hbr hwrl)
                clear hNI hrow
                go_wp2_with fail
                refine HG.out.mono ?_
                rintro e w4 ⟨rfl, h4, hB4⟩
                go_wp2_with fail
                go_ret
                exact ⟨rfl, HB1.out.trans ((hB.trans hB4).mono hwb)⟩

end Go.Proofs.YtachmkhbbbmioaaGreat

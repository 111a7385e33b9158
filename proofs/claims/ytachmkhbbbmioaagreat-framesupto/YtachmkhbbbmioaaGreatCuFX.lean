import Derived.Test.YtachmkhbbbmioaaGreatCuE
import Derived.Test.YtachmkhbbbmioaaGreatTkFX
import Derived.Test.YtachmkhbbbmioaaGreatRefOX
namespace Go.Proofs.YtachmkhbbbmioaaGreat
open Go.RowKit Go.Shelf

theorem bat_know {n : Nat} {L0 L1 L' : List UInt8} {bad1 bad' : Bool} {k : Int} {l : List OpR} (c1 : Cmp vbI N7 L0 false k L1 bad1) (c2 : Cmp (opsEnc n) (fun m => m.length = l.length ∧ ∀ y ∈ m, Ok8 n y) L1 bad1 l L' bad') (hle : (l.length : Int) ≤ k) {u : List OpR} (hu : bOk n u) (e : L0 = bEnc n u) :
    k = u.length ∧ bad' = false ∧ l = u.take l.length ∧ L' = opsEnc n (u.drop l.length) := by
  obtain ⟨e1, v1, m1⟩ := c1 rfl (u.length : Int) (opsEnc n u) ⟨by omega, by have := hu.1.2; omega⟩ e
  have hlu : l.length ≤ u.length := by omega
  have hsp : opsEnc n u = opsEnc n (u.take l.length) ++ opsEnc n (u.drop l.length) := by
    unfold opsEnc
    rw [← List.flatMap_append, List.take_append_drop]
  obtain ⟨e2, v2, m2⟩ := c2 e1 (u.take l.length) (opsEnc n (u.drop l.length)) ⟨by rw [List.length_take]; omega, fun y hy => hu.2 y (List.mem_of_mem_take hy)⟩ (by rw [m1, hsp])
  exact ⟨v1, e2, v2, m2⟩

theorem bat_next {n : Nat} {L' L2 : List UInt8} {bad2 : Bool} {l : List OpR} {x : OpR} (c : Cmp (OpR.bytes n) (Ok8 n) L' false x L2 bad2) {u : List OpR} (hu : bOk n u) (hlt : l.length < u.length) (e : L' = opsEnc n (u.drop l.length)) : bad2 = false ∧ Ok8 n x := by
  rw [List.drop_eq_getElem_cons hlt] at e
  have hz := hu.2 u[l.length] (List.getElem_mem _)
  obtain ⟨e1, v1, -⟩ := c rfl u[l.length] (opsEnc n (u.drop (l.length + 1))) hz (by rw [e]; simp only [opsEnc, List.flatMap_cons])
  exact ⟨e1, by rw [v1]; exact hz⟩

theorem opsc_snoc {n : Nat} {L L1 L2 : List UInt8} {b b1 b2 : Bool} {l : List OpR} {x : OpR} (d1 : Cmp (opsEnc n) (fun m => m.length = l.length ∧ ∀ y ∈ m, Ok8 n y) L b l L1 b1) (d2 : Cmp (OpR.bytes n) (Ok8 n) L1 b1 x L2 b2) :
    Cmp (opsEnc n) (fun m => m.length = l.length + 1 ∧ ∀ y ∈ m, Ok8 n y) L b (l ++ [x]) L2 b2 := by
  intro h u rest hu hL
  obtain ⟨m, z, rfl⟩ : ∃ m z, u = m ++ [z] := by
    have hne : u ≠ [] := by intro e; rw [e] at hu; simp at hu
    exact ⟨u.dropLast, u.getLast hne, (List.dropLast_concat_getLast hne).symm⟩
  have hml : m.length = l.length := by have := hu.1; simp at this; omega
  obtain ⟨e1, v1, m1⟩ := d1 h m (z.bytes n ++ rest) ⟨hml, fun y hy => hu.2 y (by simp [hy])⟩ (by rw [hL]; simp [opsEnc])
  obtain ⟨e2, v2, m2⟩ := d2 e1 z rest (hu.2 z (by simp)) m1
  exact ⟨e2, by rw [v1, v2], m2⟩

theorem ok8_opok {n : Nat} (h8 : n ≤ 8) {x : OpR} (h : Ok8 n x) : OpOk n x := by
  have hc := h.c
  have ht := h.tgt
  have hk := h.kind
  refine ⟨h.o, h.num, h.c, by omega, by omega, by omega, ?_, fun i _ => ?_⟩
  · by_cases k0 : x.kind = 0
    · have := h.r k0
      exact ⟨this.1, this.2.1⟩
    · have := h.r1 (by omega)
      omega
  · by_cases hi : i < n
    · exact h.q i hi
    · rw [h.q0 i (by omega)]; omega

theorem OpsNew.row {n base : Nat} {v : Value} {l : List OpR} {w : World} (h : OpsNew n v l base w) : OpsRow n v l w := by
  obtain ⟨rows, h1, h2, -, h3⟩ := h
  exact ⟨rows, h1, h2, fun j x hj => by obtain ⟨vk, a, b, -⟩ := h3 j x hj; exact ⟨vk, a, b⟩⟩

theorem OpsNew.kept {n base : Nat} {v : Value} {l : List OpR} {w w' : World} (h : OpsNew n v l base w) (hb : ∀ (b : Nat) (t : TypeId) (cur : Array Value), (t = 88 ∨ t = 3) → w.heap[b]? = some (.cells cur t) → w'.heap[b]? = w.heap[b]?) : OpsNew n v l base w' := by
  obtain ⟨rows, h1, h2, h3, h4⟩ := h
  refine ⟨rows, h1.kept (fun g hg => ?_), h2, h3, fun j x hj => ?_⟩
  · obtain ⟨cur, hc⟩ := h1.blk hg
    exact hb g _ cur (.inl rfl) hc
  · obtain ⟨vk, a, b, c⟩ := h4 j x hj
    refine ⟨vk, a, b.kept (fun g hg => ?_), c⟩
    obtain ⟨cur, hc⟩ := b.blk hg
    exact hb g _ cur (.inr rfl) hc

theorem OpsNew.value {n base : Nat} {v : Value} {l : List OpR} {w : World} (h : OpsNew n v l base w) : ∃ a c, v = .slice a l.length c := by
  obtain ⟨rows, h1, h2, -⟩ := h
  obtain ⟨a, c, rfl, -⟩ := h1.value
  exact ⟨a, c, by rw [h2]⟩

/-- What is kept where blocks of another type are turned alone. -/
theorem blk_of_fr {cs : List Nat} {w w' : World} (h : Fr cs w w') {ct : TypeId} (hcs : ∀ b ∈ cs, ∃ cur, w.heap[b]? = some (.cells cur ct)) : ∀ (b : Nat) (t : TypeId) (cur : Array Value), t ≠ ct → w.heap[b]? = some (.cells cur t) → w'.heap[b]? = w.heap[b]? := by
  intro b t cur hne hb
  refine h.block b (lt_of_heap hb) (fun hm => ?_)
  obtain ⟨c2, h2⟩ := hcs b hm
  rw [hb] at h2
  cases h2
  exact hne rfl

set_option maxRecDepth 100000 in
set_option maxHeartbeats 4000000 in
theorem readRbat (n : Nat) (h1 : 1 ≤ n) (h8 : n ≤ 8) (D L0 : List UInt8) (ml : Nat) (hml : D.length = ml + 4) (h120 : D.length ≤ 120) (h6 : 6 ≤ D.length) (h0 : D[0]? = some 66) (hm : (D.drop 1).take (D.length - 5) = L0) (w : World) :
    Calls Tryz.prog 69 #[str D, .int .i64 n] w fun e w' => RReadCu n D w e w' := by
  have hcut : ∀ w, (Instr.slice 9 (str D) (some (.int .i64 1)) (some (.int .i64 (ml : Int))) none).run Tryz.prog w = .ok (str L0) w := fun w => by
    have := str_mid D 1 ml (by omega) (by omega) w
    rw [show (.int .i64 (1 : Int) : Value) = .int .i64 ((1 : Nat) : Int) from rfl, this, ← hm, show D.length - 5 = ml - 1 from by omega]
  have hD1 : (D.length : Int) = (ml : Int) + 4 := by omega
  have hw1 : IntKind.i64.wrap ((ml : Int) + 4 - 4) = (ml : Int) := by rw [IntKind.wrap_i64]; omega
  have hd1 : ¬ (120 : Int) < (ml : Int) + 4 := by omega
  have hd2 : ¬ ((ml : Int) + 4) < 6 := by omega
  have hL0 : L0.length ≤ 115 := by rw [← hm]; simp; omega
  have hix : ∀ w, (Instr.index 9 (str D) (.int .i64 0)).run Tryz.prog w = .ok (.int .u8 66) w := fun w => sindex D 0 66 h0 w
  go_enter Tryz.func69, Tryz.ntmps69
  go_upto_region 5 with fail
  have g1 : w.grownBy (((w.alloc (.cells #[.int .i64 0, .slice none 0 0, .slice none 0 0] 84)).alloc (.cells #[.int .i64 0, .slice none 0 0, .slice none 0 0] 84)).alloc (.cells #[str L0, .bool false] 160)) none := grown_alloc (grown_alloc (grown_alloc (grown_refl _) _) _) _
  have kR : (((w.alloc (.cells #[.int .i64 0, .slice none 0 0, .slice none 0 0] 84)).alloc (.cells #[.int .i64 0, .slice none 0 0, .slice none 0 0] 84)).alloc (.cells #[str L0, .bool false] 160)).heap[w.heap.size]? = some (.cells #[.int .i64 0, .slice none 0 0, .slice none 0 0] 84) := by simp only [heap_alloc_at, World.size_alloc]; simp; omega
  have kF : (((w.alloc (.cells #[.int .i64 0, .slice none 0 0, .slice none 0 0] 84)).alloc (.cells #[.int .i64 0, .slice none 0 0, .slice none 0 0] 84)).alloc (.cells #[str L0, .bool false] 160)).heap[w.heap.size + 1]? = some (.cells #[.int .i64 0, .slice none 0 0, .slice none 0 0] 84) := by simp only [heap_alloc_at, World.size_alloc]; simp
  have kC : (((w.alloc (.cells #[.int .i64 0, .slice none 0 0, .slice none 0 0] 84)).alloc (.cells #[.int .i64 0, .slice none 0 0, .slice none 0 0] 84)).alloc (.cells #[str L0, .bool false] 160)).heap[w.heap.size + 1 + 1]? = some (.cells #[str L0, .bool false] 160) := by simp only [heap_alloc_at, World.size_alloc]; simp
  generalize (((w.alloc (.cells #[.int .i64 0, .slice none 0 0, .slice none 0 0] 84)).alloc (.cells #[.int .i64 0, .slice none 0 0, .slice none 0 0] 84)).alloc (.cells #[str L0, .bool false] 160)) = w1 at g1 kR kF kC ⊢
  obtain ⟨b4, hb4⟩ : ∃ b, w.heap.size = b := ⟨_, rfl⟩
  rw [hb4] at kR kF kC ⊢
  have n1 : b4 + 1 ≠ b4 := by omega
  have n2 : b4 + 1 + 1 ≠ b4 := by omega
  have H1 := hide (cuNumP (b4 + 1 + 1) L0 false (by omega) w1 kC)
  go_wp2_with fail
  refine H1.out.mono ?_
  rintro e w2 ⟨k, L1, bad1, rfl, hX⟩
  have kR2 := hX.fr.blk kR (by simp; omega)
  have kF2 := hX.fr.blk kF (by simp)
  have hC2 := hX.at'
  have hFA : Fr [] w w2 := (Fr.ofGrown g1).after hX.fr (fun x hx => .inr (by simp at hx; omega))
  have hl1 := hX.len
  have hk7 := hX.inn
  have CM1 := hide hX.cmp
  clear H1 kR kF kC g1 hX
  have hc0 : Hid (Cmp (opsEnc n) (fun m => m.length = ([] : List OpR).length ∧ ∀ y ∈ m, Ok8 n y) L1 bad1 [] L1 bad1) := hide (fun e u rest hu hL => ⟨e, (List.eq_nil_of_length_eq_zero hu.1).symm, by rw [List.eq_nil_of_length_eq_zero hu.1] at hL; simpa [opsEnc] using hL⟩)
  go_wp2_with fail
  go_loopg [10] k.toNat (fun gk s10 wr => ∃ (l : List OpR) (vo : Value) (L' : List UInt8) (bad' : Bool), s10 = .int .i64 l.length ∧ (l.length : Int) ≤ k ∧ gk = k.toNat - l.length ∧ CuAt (b4 + 1 + 1) L' bad' wr ∧ wr.heap[b4 + 1]? = some (.cells #[.int .i64 0, .slice none 0 0, vo] 84) ∧ wr.heap[b4]? = some (.cells #[.int .i64 0, .slice none 0 0, .slice none 0 0] 84) ∧ OpsNew n vo l b4 wr ∧ Fr [] w wr ∧ Hid (∀ x ∈ l, Ok8 n x) ∧ l.length + L'.length ≤ L1.length ∧ Hid (Cmp (opsEnc n) (fun m => m.length = l.length ∧ ∀ y ∈ m, Ok8 n y) L1 bad1 l L' bad'))
  case atStart => exact ⟨[], .slice none 0 0, L1, bad1, rfl, by simp; omega, by simp, hC2, kF2, kR2, ⟨[], row_nil _ _ _, rfl, by simp [Value.ownBlock], by simp⟩, hFA, hide (by simp), by simp, hc0⟩
  case round =>
    clear kR2 kF2 hC2 hFA hc0
    obtain ⟨l, vo, L', bad', rfl, hlk, hgk, kC, kF, kR, hO, hFD, hok, hll, hcm⟩ := hrel
    obtain ⟨ao, co, rfl⟩ := hO.value
    have HKN := hide (fun (u : List OpR) (hu : bOk n u) (e : L0 = bEnc n u) => bat_know CM1.out hcm.out hlk hu e)
    have cc' : wr.cell? ⟨b4 + 1 + 1, 1, none⟩ = some (.bool bad') := cell_blk kC 1
    by_cases hlt : (l.length : Int) < k ∧ bad' = false
    · obtain ⟨hlt, rfl⟩ := hlt
      have H2 := hide (cuOpP (b4 + 1 + 1) n h8 L' false (by omega) wr kC)
      go_wp2_with fail
      refine H2.out.mono ?_
      rintro e w5 ⟨o, num, c, kind, tc, tk, r, xs, vk, L2, bad2, rfl, hvk, hxl, hx7, h7, kC5, hF5, hO5, hl5, hcm5, hcon5⟩
      have kF5 := hF5.blk kF (by simp)
      have kR5 := hF5.blk kR (by simp; omega)
      have hFD5 : Fr [] w w5 := hFD.after hF5 (fun x hx => .inr (by simp at hx; omega))
      have hON5 : OpsNew n (.slice ao l.length co) l b4 w5 := hO.kept (fun b t cur ht hb => blk_of_fr hF5 (ct := 160) (fun x hx => by simp at hx; subst hx; exact ⟨_, kC⟩) b t cur (by rcases ht with rfl | rfl <;> decide) hb)
      have hsz : w.heap.size ≤ wr.heap.size := hFD.size
      have HCM5 := hide hcm5
      have HCON := hide hcon5
      have HX7 := hide hx7
      have H7 := hide h7
      have HB : Hid (∀ u, bOk n u → L0 = bEnc n u → bad2 = false ∧ Ok8 n ⟨o, num, c, kind, tc, tk, r, qOf xs⟩) := hide (fun u hu e => by
        obtain ⟨q1, -, -, q4⟩ := HKN.out u hu e
        exact bat_next HCM5.out hu (by omega) q4)
      clear hcm5 hcon5 hx7 h7 H2 cc'
      obtain ⟨av, cv, rfl, -⟩ := hvk.value
      rw [intRow_len, hxl] at hvk hO5 ⊢
      go_upto_region 18 with fail
      have g6 : w5.grownBy (w5.alloc (.cells #[.int .i64 o, .int .i64 num, .int .i64 c, .int .i64 kind, .int .i64 tc, .int .i64 tk, .int .i64 r, .slice av n cv] 88)) none := grown_alloc (grown_refl _) _
      have kO : (w5.alloc (.cells #[.int .i64 o, .int .i64 num, .int .i64 c, .int .i64 kind, .int .i64 tc, .int .i64 tk, .int .i64 r, .slice av n cv] 88)).heap[w5.heap.size]? = some (.cells #[.int .i64 o, .int .i64 num, .int .i64 c, .int .i64 kind, .int .i64 tc, .int .i64 tk, .int .i64 r, .slice av n cv] 88) := by rw [heap_alloc_at]; simp
      generalize (w5.alloc (.cells #[.int .i64 o, .int .i64 num, .int .i64 c, .int .i64 kind, .int .i64 tc, .int .i64 tk, .int .i64 r, .slice av n cv] 88)) = w6 at g6 kO ⊢
      have kF6 := (g6.block _ (lt_of_heap kF5) (by simp)).trans kF5
      have kR6 := (g6.block _ (lt_of_heap kR5) (by simp)).trans kR5
      have kC6 : CuAt (b4 + 1 + 1) L2 bad2 w6 := (g6.block _ (lt_of_heap kC5) (by simp)).trans kC5
      have hvk6 := hvk.grown g6
      have hON6 := hON5.kept (w' := w6) (fun b t cur _ hb => g6.block b (lt_of_heap hb) (by simp))
      have hFD6 : Fr [] w w6 := hFD5.grown g6 (by simp)
      obtain ⟨bo, hbo⟩ : ∃ b, w5.heap.size = b := ⟨_, rfl⟩
      rw [hbo] at kO ⊢
      clear kF kR kC hFD hO kF5 kR5 kC5 hFD5 hON5 hvk g6 hF5
      rename w6.heap[b4 + 1]? = _ => kF
      rename w6.heap[b4]? = _ => kR
      rename CuAt (b4 + 1 + 1) L2 bad2 w6 => kC
      rename Fr [] w w6 => hFD
      have cb6 : w6.cell? ⟨b4 + 1 + 1, 1, none⟩ = some (.bool bad2) := cell_blk kC 1
      have p0 : w6.cell? ⟨bo, 0, none⟩ = some (.int .i64 o) := cell_blk kO 0
      have p1 : w6.cell? ⟨bo, 1, none⟩ = some (.int .i64 num) := cell_blk kO 1
      have p2 : w6.cell? ⟨bo, 2, none⟩ = some (.int .i64 c) := cell_blk kO 2
      have p3 : w6.cell? ⟨bo, 3, none⟩ = some (.int .i64 kind) := cell_blk kO 3
      have p4 : w6.cell? ⟨bo, 4, none⟩ = some (.int .i64 tc) := cell_blk kO 4
      have p5 : w6.cell? ⟨bo, 5, none⟩ = some (.int .i64 tk) := cell_blk kO 5
      have p6 : w6.cell? ⟨bo, 6, none⟩ = some (.int .i64 r) := cell_blk kO 6
      have p7 : w6.cell? ⟨bo, 7, none⟩ = some (.slice av n cv) := cell_blk kO 7
      cases bad2 with
      | true =>
        have HN := hide (noFr_mid (n := n) h0 hm (fun d _ e => by simp at e) (fun u hu _ e => by have := (HB.out u hu e).1; simp at this))
        have c0 : w6.cell? ⟨b4 + 1, 0, none⟩ = some (.int .i64 0) := cell_blk kF 0
        have c1 : w6.cell? ⟨b4 + 1, 1, none⟩ = some (.slice none 0 0) := cell_blk kF 1
        have c2 : w6.cell? ⟨b4 + 1, 2, none⟩ = some (.slice ao l.length co) := cell_blk kF 2
        have r0 : w6.cell? ⟨b4, 0, none⟩ = some (.int .i64 0) := cell_blk kR 0
        have z0 : w6.frozen? ⟨b4, 0, none⟩ = false := frozen_blk kR 0
        have r1 : w6.cell? ⟨b4, 1, none⟩ = some (.slice none 0 0) := cell_blk kR 1
        have z1 : w6.frozen? ⟨b4, 1, none⟩ = false := frozen_blk kR 1
        have r2 : w6.cell? ⟨b4, 2, none⟩ = some (.slice none 0 0) := cell_blk kR 2
        have z2 : w6.frozen? ⟨b4, 2, none⟩ = false := frozen_blk kR 2
        go_wp2_with fail
        have hF8 : Fr [] w (((w6.setCell ⟨b4, 0, none⟩ (.int .i64 0)).setCell ⟨b4, 1, none⟩ (.slice none 0 0)).setCell ⟨b4, 2, none⟩ (.slice ao l.length co)) := by
          iterate 3 refine Fr.setCell ?_ (.inr (by simp; omega)) _
          exact hFD
        have k8 : (((w6.setCell ⟨b4, 0, none⟩ (.int .i64 0)).setCell ⟨b4, 1, none⟩ (.slice none 0 0)).setCell ⟨b4, 2, none⟩ (.slice ao l.length co)).heap[b4]? = some (.cells #[.int .i64 0, .slice none 0 0, .slice ao l.length co] 84) := set3_blk kR
        generalize (((w6.setCell ⟨b4, 0, none⟩ (.int .i64 0)).setCell ⟨b4, 1, none⟩ (.slice none 0 0)).setCell ⟨b4, 2, none⟩ (.slice ao l.length co)) = w8 at hF8 k8 ⊢
        clear c0 c1 c2 r0 r1 r2 z0 z1 z2
        have e0 : w8.cell? ⟨b4, 0, none⟩ = some (.int .i64 0) := cell_blk k8 0
        have e1 : w8.cell? ⟨b4, 1, none⟩ = some (.slice none 0 0) := cell_blk k8 1
        have e2 : w8.cell? ⟨b4, 2, none⟩ = some (.slice ao l.length co) := cell_blk k8 2
        exact bodyPost_ret (v := .tuple #[.agg #[.int .i64 0, .slice none 0 0, .slice ao l.length co], .bool false]) (by simp [results, Tryz.results69, go_sem, e0, e1, e2]) rfl ⟨hF8.toGrown, .inl ⟨_, rfl, HN.out, _, _, _, _, _, _, _, rfl⟩⟩
      | false =>
        have HMay := hide (mayP n h1 h8 o num c kind tc tk r xs hxl HX7.out H7.out (.slice av n cv) w6 hvk6)
        go_wp2_with fail
        refine HMay.out.mono ?_
        rintro e w7 ⟨b, rfl, g7, hb⟩
        have HMB := hide hb
        have kF7 := (g7.block _ (lt_of_heap kF) (by simp)).trans kF
        have kR7' := (g7.block _ (lt_of_heap kR) (by simp)).trans kR
        have kC7 : CuAt (b4 + 1 + 1) L2 false w7 := (g7.block _ (lt_of_heap kC) (by simp)).trans kC
        have kO7 := (g7.block _ (lt_of_heap kO) (by simp)).trans kO
        have hvk7 := hvk6.grown g7
        have hON7 := hON6.kept (w' := w7) (fun b t cur _ hb => g7.block b (lt_of_heap hb) (by simp))
        have hFD7 : Fr [] w w7 := hFD.grown g7 (by simp)
        clear kF kR kC hFD kO hvk6 hON6 g7 hb HMay cb6 p0 p1 p2 p3 p4 p5 p6 p7
        rename w7.heap[b4 + 1]? = _ => kF
        rename w7.heap[b4]? = _ => kR
        rename CuAt (b4 + 1 + 1) L2 false w7 => kC
        rename Fr [] w w7 => hFD
        cases b with
        | false =>
          have HN := hide (noFr_mid (n := n) h0 hm (fun d _ e => by simp at e) (fun u hu _ e => by have := HMB.out.2 (HB.out u hu e).2; simp at this))
          have c0 : w7.cell? ⟨b4 + 1, 0, none⟩ = some (.int .i64 0) := cell_blk kF 0
          have c1 : w7.cell? ⟨b4 + 1, 1, none⟩ = some (.slice none 0 0) := cell_blk kF 1
          have c2 : w7.cell? ⟨b4 + 1, 2, none⟩ = some (.slice ao l.length co) := cell_blk kF 2
          have r0 : w7.cell? ⟨b4, 0, none⟩ = some (.int .i64 0) := cell_blk kR 0
          have z0 : w7.frozen? ⟨b4, 0, none⟩ = false := frozen_blk kR 0
          have r1 : w7.cell? ⟨b4, 1, none⟩ = some (.slice none 0 0) := cell_blk kR 1
          have z1 : w7.frozen? ⟨b4, 1, none⟩ = false := frozen_blk kR 1
          have r2 : w7.cell? ⟨b4, 2, none⟩ = some (.slice none 0 0) := cell_blk kR 2
          have z2 : w7.frozen? ⟨b4, 2, none⟩ = false := frozen_blk kR 2
          go_wp2_with fail
          have hF8 : Fr [] w (((w7.setCell ⟨b4, 0, none⟩ (.int .i64 0)).setCell ⟨b4, 1, none⟩ (.slice none 0 0)).setCell ⟨b4, 2, none⟩ (.slice ao l.length co)) := by
            iterate 3 refine Fr.setCell ?_ (.inr (by simp; omega)) _
            exact hFD
          have k8 : (((w7.setCell ⟨b4, 0, none⟩ (.int .i64 0)).setCell ⟨b4, 1, none⟩ (.slice none 0 0)).setCell ⟨b4, 2, none⟩ (.slice ao l.length co)).heap[b4]? = some (.cells #[.int .i64 0, .slice none 0 0, .slice ao l.length co] 84) := set3_blk kR
          generalize (((w7.setCell ⟨b4, 0, none⟩ (.int .i64 0)).setCell ⟨b4, 1, none⟩ (.slice none 0 0)).setCell ⟨b4, 2, none⟩ (.slice ao l.length co)) = w8 at hF8 k8 ⊢
          clear c0 c1 c2 r0 r1 r2 z0 z1 z2
          have e0 : w8.cell? ⟨b4, 0, none⟩ = some (.int .i64 0) := cell_blk k8 0
          have e1 : w8.cell? ⟨b4, 1, none⟩ = some (.slice none 0 0) := cell_blk k8 1
          have e2 : w8.cell? ⟨b4, 2, none⟩ = some (.slice ao l.length co) := cell_blk k8 2
          exact bodyPost_ret (v := .tuple #[.agg #[.int .i64 0, .slice none 0 0, .slice ao l.length co], .bool false]) (by simp [results, Tryz.results69, go_sem, e0, e1, e2]) rfl ⟨hF8.toGrown, .inl ⟨_, rfl, HN.out, _, _, _, _, _, _, _, rfl⟩⟩
        | true =>
          obtain ⟨rows, hrow, hrl, hvn, hrx⟩ := hON7
          have cq2 : w7.cell? ⟨b4 + 1, 2, none⟩ = some (.slice ao l.length co) := cell_blk kF 2
          have p0 : w7.cell? ⟨bo, 0, none⟩ = some (.int .i64 o) := cell_blk kO7 0
          have p1 : w7.cell? ⟨bo, 1, none⟩ = some (.int .i64 num) := cell_blk kO7 1
          have p2 : w7.cell? ⟨bo, 2, none⟩ = some (.int .i64 c) := cell_blk kO7 2
          have p3 : w7.cell? ⟨bo, 3, none⟩ = some (.int .i64 kind) := cell_blk kO7 3
          have p4 : w7.cell? ⟨bo, 4, none⟩ = some (.int .i64 tc) := cell_blk kO7 4
          have p5 : w7.cell? ⟨bo, 5, none⟩ = some (.int .i64 tk) := cell_blk kO7 5
          have p6 : w7.cell? ⟨bo, 6, none⟩ = some (.int .i64 r) := cell_blk kO7 6
          have p7 : w7.cell? ⟨bo, 7, none⟩ = some (.slice av n cv) := cell_blk kO7 7
          have g8 : w7.grownBy (w7.alloc (.cells #[.int .i64 o, .int .i64 num, .int .i64 c, .int .i64 kind, .int .i64 tc, .int .i64 tk, .int .i64 r, .slice av n cv] 88)) none := grown_alloc (grown_refl _) _
          have hSr : SrcAt (w7.alloc (.cells #[.int .i64 o, .int .i64 num, .int .i64 c, .int .i64 kind, .int .i64 tc, .int .i64 tk, .int .i64 r, .slice av n cv] 88)) (.slice (some ⟨w7.heap.size, 0, none⟩) 1 1) [[.int .i64 o, .int .i64 num, .int .i64 c, .int .i64 kind, .int .i64 tc, .int .i64 tk, .int .i64 r, .slice av n cv]] := src_new w7 [.int .i64 o, .int .i64 num, .int .i64 c, .int .i64 kind, .int .i64 tc, .int .i64 tk, .int .i64 r, .slice av n cv] _
          have hR8 := hrow.grown g8
          have kF8 := (g8.block _ (lt_of_heap kF) (by simp)).trans kF
          have nvf : (Value.slice ao l.length co).ownBlock ≠ some (b4 + 1) := hrow.neBlk kF (by decide)
          have nvr : (Value.slice ao l.length co).ownBlock ≠ some b4 := hrow.neBlk kR (by decide)
          have nvc : (Value.slice ao l.length co).ownBlock ≠ some (b4 + 1 + 1) := hrow.neBlk kC (by decide)
          have hcon := HCON.out (by simp)
          have l1 : ([[.int .i64 o, .int .i64 num, .int .i64 c, .int .i64 kind, .int .i64 tc, .int .i64 tk, .int .i64 r, .slice av n cv]] : List (List Value)).length = 1 := rfl
          go_wp2_with (at_builtin; refine wpList_row Tryz.underlying41 infoOp rfl (by decide) rfl _ _ rfl (.slice ao l.length co) rows rfl hR8 _ _ rfl hSr (by simp) (by simp [Value.oneCell']) (by unfold maxLen; omega) (by omega) ?_; intro v9 w9 hR9 hg9 hat; obtain ⟨a9, m9, c9, hv9e⟩ : ∃ a m c, v9 = .slice a m c := (by obtain ⟨a, c, e, -⟩ := hR9.value; exact ⟨a, _, c, e⟩); subst hv9e; have kF9 := (hg9.block (b4 + 1) (lt_of_heap kF8) (Ne.symm nvf)).trans kF8; have y2 : w9.cell? ⟨b4 + 1, 2, none⟩ = some (.slice ao l.length co) := cell_blk kF9 2; have z2 : w9.frozen? ⟨b4 + 1, 2, none⟩ = false := frozen_blk kF9 2)
          have kR9 : (w9.setCell ⟨b4 + 1, 2, none⟩ (.slice a9 m9 c9)).heap[b4]? = some (.cells #[.int .i64 0, .slice none 0 0, .slice none 0 0] 84) := (Below.heap_setCell _ _ _ _ (by simp)).trans ((hg9.block b4 (by have := lt_of_heap kR; have := g8.size; omega) (Ne.symm nvr)).trans ((g8.block b4 (lt_of_heap kR) (by simp)).trans kR))
          have kC9 : CuAt (b4 + 1 + 1) L2 false (w9.setCell ⟨b4 + 1, 2, none⟩ (.slice a9 m9 c9)) := (Below.heap_setCell _ _ _ _ (by simp)).trans ((hg9.block (b4 + 1 + 1) (by have := lt_of_heap kC; have := g8.size; omega) (Ne.symm nvc)).trans ((g8.block (b4 + 1 + 1) (lt_of_heap kC) (by simp)).trans kC))
          have kFz : (w9.setCell ⟨b4 + 1, 2, none⟩ (.slice a9 m9 c9)).heap[b4 + 1]? = some (.cells #[.int .i64 0, .slice none 0 0, .slice a9 m9 c9] 84) := by rw [set_blk kF9]; rfl
          have hvf : ∀ g, (Value.slice a9 m9 c9).ownBlock = some g → b4 ≤ g := fun g hg => by
            rcases hat with hat | hat
            · exact hvn g (hat ▸ hg)
            · rw [hat] at hg; cases hg; have := g8.size; have := hFD.size; omega
          have hkeep : ∀ (vk : Value) (ys : List (List Value)), RowAt 3 1 vk ys w7 → RowAt 3 1 vk ys (w9.setCell ⟨b4 + 1, 2, none⟩ (.slice a9 m9 c9)) := fun vk ys hv => hv.kept (fun g hg => (Below.heap_setCell _ _ _ _ (fun (e : g = b4 + 1) => hv.neBlk kF (by decide) (e ▸ hg))).trans ((hg9.block g (by have := hv.lt hg; have := g8.size; omega) (Ne.symm (hv.ne hrow (by decide) hg))).trans (g8.block g (hv.lt hg) (by simp))))
          have hOz : OpsNew n (.slice a9 m9 c9) (l ++ [⟨o, num, c, kind, tc, tk, r, qOf xs⟩]) b4 (w9.setCell ⟨b4 + 1, 2, none⟩ (.slice a9 m9 c9)) := by
            refine ⟨rows ++ [[.int .i64 o, .int .i64 num, .int .i64 c, .int .i64 kind, .int .i64 tc, .int .i64 tk, .int .i64 r, .slice av n cv]], hR9.kept (fun g hg => Below.heap_setCell _ _ _ _ (fun (e : g = b4 + 1) => hR9.neBlk kF9 (by decide) (e ▸ hg))), by simp [hrl], hvf, fun j x hj => ?_⟩
            by_cases hjl : j < l.length
            · rw [List.getElem?_append_left hjl] at hj
              obtain ⟨vk, a, b, c⟩ := hrx j x hj
              exact ⟨vk, by rw [List.getElem?_append_left (by omega)]; exact a, hkeep _ _ b, c⟩
            · have hje : j = l.length := by
                have := (List.getElem?_eq_some_iff.1 hj).1
                simp at this; omega
              subst hje
              rw [List.getElem?_append_right (by omega)] at hj
              simp at hj
              subst hj
              refine ⟨.slice av n cv, by rw [List.getElem?_append_right (by omega), hrl]; simp [opCells], ?_, fun g hg => by have := hO5 g hg; omega⟩
              show RowAt 3 1 (.slice av n cv) (intRow (clk n (qOf xs))) _
              rw [show clk n (qOf xs) = xs from by rw [← hxl]; exact clk_qOf xs]
              exact hkeep _ _ hvk7
          have hFz : Fr [] w (w9.setCell ⟨b4 + 1, 2, none⟩ (.slice a9 m9 c9)) := ((hFD.grown g8 (by simp)).grown hg9 (fun k hk => .inr (by have := hvn k hk; omega))).setCell (.inr (by simp; omega)) _
          generalize (w9.setCell ⟨b4 + 1, 2, none⟩ (.slice a9 m9 c9)) = wz at kR9 kC9 kFz hOz hFz ⊢
          clear hkeep
          go_roundg (k.toNat - (l.length + 1))
          case measure => omega
          case rel =>
            refine ⟨l ++ [⟨o, num, c, kind, tc, tk, r, qOf xs⟩], .slice a9 m9 c9, L2, false, ?_, by simp; omega, by simp, kC9, kFz, kR9, hOz, hFz, hide ?_, by simp; omega, hide ?_⟩
            · have : ((l ++ [(⟨o, num, c, kind, tc, tk, r, qOf xs⟩ : OpR)]).length : Int) = (l.length : Int) + 1 := by simp
              rw [this]
            · intro x hx
              rcases List.mem_append.1 hx with hx | hx
              · exact hok.out x hx
              · simp at hx; subst hx; exact HMB.out.1 (by simp)
            · have := opsc_snoc hcm.out HCM5.out
              simpa using this
    · have cq2 : wr.cell? ⟨b4 + 1, 2, none⟩ = some (.slice ao l.length co) := cell_blk kF 2
      cases bad' with
      | true =>
        have HN := hide (noFr_mid (n := n) h0 hm (fun d _ e => by simp at e) (fun u hu _ e => by have := (HKN.out u hu e).2.1; simp at this))
        by_cases hq : (l.length : Int) < k
        · by_cases hl0 : ((l.length : Int) == 0) = true
          · skip
            have c0 : wr.cell? ⟨b4 + 1, 0, none⟩ = some (.int .i64 0) := cell_blk kF 0
            have c1 : wr.cell? ⟨b4 + 1, 1, none⟩ = some (.slice none 0 0) := cell_blk kF 1
            have c2 : wr.cell? ⟨b4 + 1, 2, none⟩ = some (.slice ao l.length co) := cell_blk kF 2
            have r0 : wr.cell? ⟨b4, 0, none⟩ = some (.int .i64 0) := cell_blk kR 0
            have z0 : wr.frozen? ⟨b4, 0, none⟩ = false := frozen_blk kR 0
            have r1 : wr.cell? ⟨b4, 1, none⟩ = some (.slice none 0 0) := cell_blk kR 1
            have z1 : wr.frozen? ⟨b4, 1, none⟩ = false := frozen_blk kR 1
            have r2 : wr.cell? ⟨b4, 2, none⟩ = some (.slice none 0 0) := cell_blk kR 2
            have z2 : wr.frozen? ⟨b4, 2, none⟩ = false := frozen_blk kR 2
            go_wp2_with fail
            have hF8 : Fr [] w (((wr.setCell ⟨b4, 0, none⟩ (.int .i64 0)).setCell ⟨b4, 1, none⟩ (.slice none 0 0)).setCell ⟨b4, 2, none⟩ (.slice ao l.length co)) := by
              iterate 3 refine Fr.setCell ?_ (.inr (by simp; omega)) _
              exact hFD
            have k8 : (((wr.setCell ⟨b4, 0, none⟩ (.int .i64 0)).setCell ⟨b4, 1, none⟩ (.slice none 0 0)).setCell ⟨b4, 2, none⟩ (.slice ao l.length co)).heap[b4]? = some (.cells #[.int .i64 0, .slice none 0 0, .slice ao l.length co] 84) := set3_blk kR
            generalize (((wr.setCell ⟨b4, 0, none⟩ (.int .i64 0)).setCell ⟨b4, 1, none⟩ (.slice none 0 0)).setCell ⟨b4, 2, none⟩ (.slice ao l.length co)) = w8 at hF8 k8 ⊢
            clear c0 c1 c2 r0 r1 r2 z0 z1 z2
            have e0 : w8.cell? ⟨b4, 0, none⟩ = some (.int .i64 0) := cell_blk k8 0
            have e1 : w8.cell? ⟨b4, 1, none⟩ = some (.slice none 0 0) := cell_blk k8 1
            have e2 : w8.cell? ⟨b4, 2, none⟩ = some (.slice ao l.length co) := cell_blk k8 2
            exact bodyPost_ret (v := .tuple #[.agg #[.int .i64 0, .slice none 0 0, .slice ao l.length co], .bool false]) (by simp [results, Tryz.results69, go_sem, e0, e1, e2]) rfl ⟨hF8.toGrown, .inl ⟨_, rfl, HN.out, _, _, _, _, _, _, _, rfl⟩⟩
          · have hl0' : ((l.length : Int) == 0) = false := by simpa using hl0
            have c0 : wr.cell? ⟨b4 + 1, 0, none⟩ = some (.int .i64 0) := cell_blk kF 0
            have c1 : wr.cell? ⟨b4 + 1, 1, none⟩ = some (.slice none 0 0) := cell_blk kF 1
            have c2 : wr.cell? ⟨b4 + 1, 2, none⟩ = some (.slice ao l.length co) := cell_blk kF 2
            have cc : wr.cell? ⟨b4 + 1 + 1, 1, none⟩ = some (.bool true) := cell_blk kC 1
            have r0 : wr.cell? ⟨b4, 0, none⟩ = some (.int .i64 0) := cell_blk kR 0
            have z0 : wr.frozen? ⟨b4, 0, none⟩ = false := frozen_blk kR 0
            have r1 : wr.cell? ⟨b4, 1, none⟩ = some (.slice none 0 0) := cell_blk kR 1
            have z1 : wr.frozen? ⟨b4, 1, none⟩ = false := frozen_blk kR 1
            have r2 : wr.cell? ⟨b4, 2, none⟩ = some (.slice none 0 0) := cell_blk kR 2
            have z2 : wr.frozen? ⟨b4, 2, none⟩ = false := frozen_blk kR 2
            go_wp2_with fail
            go_region
            all_goals
              go_wp2_with fail
              have hF8 : Fr [] w (((wr.setCell ⟨b4, 0, none⟩ (.int .i64 0)).setCell ⟨b4, 1, none⟩ (.slice none 0 0)).setCell ⟨b4, 2, none⟩ (.slice ao l.length co)).drew := by
                refine Fr.drew ?_
                iterate 3 refine Fr.setCell ?_ (.inr (by simp; omega)) _
                exact hFD
              have k8 : (((wr.setCell ⟨b4, 0, none⟩ (.int .i64 0)).setCell ⟨b4, 1, none⟩ (.slice none 0 0)).setCell ⟨b4, 2, none⟩ (.slice ao l.length co)).drew.heap[b4]? = some (.cells #[.int .i64 0, .slice none 0 0, .slice ao l.length co] 84) := set3_blk kR
              generalize (((wr.setCell ⟨b4, 0, none⟩ (.int .i64 0)).setCell ⟨b4, 1, none⟩ (.slice none 0 0)).setCell ⟨b4, 2, none⟩ (.slice ao l.length co)).drew = w8 at hF8 k8 ⊢
              clear r0 r1 r2 z0 z1 z2
              have e0 : w8.cell? ⟨b4, 0, none⟩ = some (.int .i64 0) := cell_blk k8 0
              have e1 : w8.cell? ⟨b4, 1, none⟩ = some (.slice none 0 0) := cell_blk k8 1
              have e2 : w8.cell? ⟨b4, 2, none⟩ = some (.slice ao l.length co) := cell_blk k8 2
              exact bodyPost_ret (v := .tuple #[.agg #[.int .i64 0, .slice none 0 0, .slice ao l.length co], .bool false]) (by simp [results, Tryz.results69, go_sem, e0, e1, e2]) rfl ⟨hF8.toGrown, .inl ⟨_, rfl, HN.out, _, _, _, _, _, _, _, rfl⟩⟩
        · by_cases hl0 : ((l.length : Int) == 0) = true
          · skip
            have c0 : wr.cell? ⟨b4 + 1, 0, none⟩ = some (.int .i64 0) := cell_blk kF 0
            have c1 : wr.cell? ⟨b4 + 1, 1, none⟩ = some (.slice none 0 0) := cell_blk kF 1
            have c2 : wr.cell? ⟨b4 + 1, 2, none⟩ = some (.slice ao l.length co) := cell_blk kF 2
            have r0 : wr.cell? ⟨b4, 0, none⟩ = some (.int .i64 0) := cell_blk kR 0
            have z0 : wr.frozen? ⟨b4, 0, none⟩ = false := frozen_blk kR 0
            have r1 : wr.cell? ⟨b4, 1, none⟩ = some (.slice none 0 0) := cell_blk kR 1
            have z1 : wr.frozen? ⟨b4, 1, none⟩ = false := frozen_blk kR 1
            have r2 : wr.cell? ⟨b4, 2, none⟩ = some (.slice none 0 0) := cell_blk kR 2
            have z2 : wr.frozen? ⟨b4, 2, none⟩ = false := frozen_blk kR 2
            go_wp2_with fail
            have hF8 : Fr [] w (((wr.setCell ⟨b4, 0, none⟩ (.int .i64 0)).setCell ⟨b4, 1, none⟩ (.slice none 0 0)).setCell ⟨b4, 2, none⟩ (.slice ao l.length co)) := by
              iterate 3 refine Fr.setCell ?_ (.inr (by simp; omega)) _
              exact hFD
            have k8 : (((wr.setCell ⟨b4, 0, none⟩ (.int .i64 0)).setCell ⟨b4, 1, none⟩ (.slice none 0 0)).setCell ⟨b4, 2, none⟩ (.slice ao l.length co)).heap[b4]? = some (.cells #[.int .i64 0, .slice none 0 0, .slice ao l.length co] 84) := set3_blk kR
            generalize (((wr.setCell ⟨b4, 0, none⟩ (.int .i64 0)).setCell ⟨b4, 1, none⟩ (.slice none 0 0)).setCell ⟨b4, 2, none⟩ (.slice ao l.length co)) = w8 at hF8 k8 ⊢
            clear c0 c1 c2 r0 r1 r2 z0 z1 z2
            have e0 : w8.cell? ⟨b4, 0, none⟩ = some (.int .i64 0) := cell_blk k8 0
            have e1 : w8.cell? ⟨b4, 1, none⟩ = some (.slice none 0 0) := cell_blk k8 1
            have e2 : w8.cell? ⟨b4, 2, none⟩ = some (.slice ao l.length co) := cell_blk k8 2
            exact bodyPost_ret (v := .tuple #[.agg #[.int .i64 0, .slice none 0 0, .slice ao l.length co], .bool false]) (by simp [results, Tryz.results69, go_sem, e0, e1, e2]) rfl ⟨hF8.toGrown, .inl ⟨_, rfl, HN.out, _, _, _, _, _, _, _, rfl⟩⟩
          · have hl0' : ((l.length : Int) == 0) = false := by simpa using hl0
            have c0 : wr.cell? ⟨b4 + 1, 0, none⟩ = some (.int .i64 0) := cell_blk kF 0
            have c1 : wr.cell? ⟨b4 + 1, 1, none⟩ = some (.slice none 0 0) := cell_blk kF 1
            have c2 : wr.cell? ⟨b4 + 1, 2, none⟩ = some (.slice ao l.length co) := cell_blk kF 2
            have cc : wr.cell? ⟨b4 + 1 + 1, 1, none⟩ = some (.bool true) := cell_blk kC 1
            have r0 : wr.cell? ⟨b4, 0, none⟩ = some (.int .i64 0) := cell_blk kR 0
            have z0 : wr.frozen? ⟨b4, 0, none⟩ = false := frozen_blk kR 0
            have r1 : wr.cell? ⟨b4, 1, none⟩ = some (.slice none 0 0) := cell_blk kR 1
            have z1 : wr.frozen? ⟨b4, 1, none⟩ = false := frozen_blk kR 1
            have r2 : wr.cell? ⟨b4, 2, none⟩ = some (.slice none 0 0) := cell_blk kR 2
            have z2 : wr.frozen? ⟨b4, 2, none⟩ = false := frozen_blk kR 2
            go_wp2_with fail
            go_region
            all_goals
              go_wp2_with fail
              have hF8 : Fr [] w (((wr.setCell ⟨b4, 0, none⟩ (.int .i64 0)).setCell ⟨b4, 1, none⟩ (.slice none 0 0)).setCell ⟨b4, 2, none⟩ (.slice ao l.length co)).drew := by
                refine Fr.drew ?_
                iterate 3 refine Fr.setCell ?_ (.inr (by simp; omega)) _
                exact hFD
              have k8 : (((wr.setCell ⟨b4, 0, none⟩ (.int .i64 0)).setCell ⟨b4, 1, none⟩ (.slice none 0 0)).setCell ⟨b4, 2, none⟩ (.slice ao l.length co)).drew.heap[b4]? = some (.cells #[.int .i64 0, .slice none 0 0, .slice ao l.length co] 84) := set3_blk kR
              generalize (((wr.setCell ⟨b4, 0, none⟩ (.int .i64 0)).setCell ⟨b4, 1, none⟩ (.slice none 0 0)).setCell ⟨b4, 2, none⟩ (.slice ao l.length co)).drew = w8 at hF8 k8 ⊢
              clear r0 r1 r2 z0 z1 z2
              have e0 : w8.cell? ⟨b4, 0, none⟩ = some (.int .i64 0) := cell_blk k8 0
              have e1 : w8.cell? ⟨b4, 1, none⟩ = some (.slice none 0 0) := cell_blk k8 1
              have e2 : w8.cell? ⟨b4, 2, none⟩ = some (.slice ao l.length co) := cell_blk k8 2
              exact bodyPost_ret (v := .tuple #[.agg #[.int .i64 0, .slice none 0 0, .slice ao l.length co], .bool false]) (by simp [results, Tryz.results69, go_sem, e0, e1, e2]) rfl ⟨hF8.toGrown, .inl ⟨_, rfl, HN.out, _, _, _, _, _, _, _, rfl⟩⟩
      | false =>
        have hq : ¬ (l.length : Int) < k := fun z => hlt ⟨z, rfl⟩
        by_cases hl0 : ((l.length : Int) == 0) = true
        · have HN := hide (noFr_mid (n := n) h0 hm (fun d _ e => by simp at e) (fun u hu _ e => by have q1 := (HKN.out u hu e).1; have q2 := hu.1.1; have q5 : (l.length : Int) = 0 := eq_of_beq hl0; omega))
          have c0 : wr.cell? ⟨b4 + 1, 0, none⟩ = some (.int .i64 0) := cell_blk kF 0
          have c1 : wr.cell? ⟨b4 + 1, 1, none⟩ = some (.slice none 0 0) := cell_blk kF 1
          have c2 : wr.cell? ⟨b4 + 1, 2, none⟩ = some (.slice ao l.length co) := cell_blk kF 2
          have r0 : wr.cell? ⟨b4, 0, none⟩ = some (.int .i64 0) := cell_blk kR 0
          have z0 : wr.frozen? ⟨b4, 0, none⟩ = false := frozen_blk kR 0
          have r1 : wr.cell? ⟨b4, 1, none⟩ = some (.slice none 0 0) := cell_blk kR 1
          have z1 : wr.frozen? ⟨b4, 1, none⟩ = false := frozen_blk kR 1
          have r2 : wr.cell? ⟨b4, 2, none⟩ = some (.slice none 0 0) := cell_blk kR 2
          have z2 : wr.frozen? ⟨b4, 2, none⟩ = false := frozen_blk kR 2
          go_wp2_with fail
          have hF8 : Fr [] w (((wr.setCell ⟨b4, 0, none⟩ (.int .i64 0)).setCell ⟨b4, 1, none⟩ (.slice none 0 0)).setCell ⟨b4, 2, none⟩ (.slice ao l.length co)) := by
            iterate 3 refine Fr.setCell ?_ (.inr (by simp; omega)) _
            exact hFD
          have k8 : (((wr.setCell ⟨b4, 0, none⟩ (.int .i64 0)).setCell ⟨b4, 1, none⟩ (.slice none 0 0)).setCell ⟨b4, 2, none⟩ (.slice ao l.length co)).heap[b4]? = some (.cells #[.int .i64 0, .slice none 0 0, .slice ao l.length co] 84) := set3_blk kR
          generalize (((wr.setCell ⟨b4, 0, none⟩ (.int .i64 0)).setCell ⟨b4, 1, none⟩ (.slice none 0 0)).setCell ⟨b4, 2, none⟩ (.slice ao l.length co)) = w8 at hF8 k8 ⊢
          clear c0 c1 c2 r0 r1 r2 z0 z1 z2
          have e0 : w8.cell? ⟨b4, 0, none⟩ = some (.int .i64 0) := cell_blk k8 0
          have e1 : w8.cell? ⟨b4, 1, none⟩ = some (.slice none 0 0) := cell_blk k8 1
          have e2 : w8.cell? ⟨b4, 2, none⟩ = some (.slice ao l.length co) := cell_blk k8 2
          exact bodyPost_ret (v := .tuple #[.agg #[.int .i64 0, .slice none 0 0, .slice ao l.length co], .bool false]) (by simp [results, Tryz.results69, go_sem, e0, e1, e2]) rfl ⟨hF8.toGrown, .inl ⟨_, rfl, HN.out, _, _, _, _, _, _, _, rfl⟩⟩
        · have hl0' : ((l.length : Int) == 0) = false := by simpa using hl0
          have hl1' : 1 ≤ l.length := by simp at hl0; cases l with | nil => exact absurd rfl hl0 | cons a t => simp
          have HW : Hid (Calls Tryz.prog 42 #[.agg #[.int .i64 0, .slice none 0 0, .slice ao l.length co]] wr.drew fun e w' => e = .returned (str (batch n l)) ∧ wr.drew.grownBy w' none) := hide (writeBatR n h8 l (by omega) (fun x hx => ok8_opok h8 (hok.out x hx)) (.slice none 0 0) (.slice ao l.length co) wr.drew (hO.row.grown (grown_drew (grown_refl wr))))
          have HM : Hid (batch n l = sealB (66 :: bEnc n l)) := hide rfl
          generalize hMM : batch n l = M at HW HM
          clear hMM hl0
          by_cases hMD : M = D
          · have hEB : (M == D) = true := by simp [hMD]
            have HG : Hid (bOk n l ∧ D = sealB (66 :: bEnc n l)) := hide ⟨⟨⟨by omega, by omega⟩, hok.out⟩, by rw [← hMD, HM.out]⟩
            clear hMD
            have c0 : wr.cell? ⟨b4 + 1, 0, none⟩ = some (.int .i64 0) := cell_blk kF 0
            have c1 : wr.cell? ⟨b4 + 1, 1, none⟩ = some (.slice none 0 0) := cell_blk kF 1
            have c2 : wr.cell? ⟨b4 + 1, 2, none⟩ = some (.slice ao l.length co) := cell_blk kF 2
            have cc : wr.cell? ⟨b4 + 1 + 1, 1, none⟩ = some (.bool false) := cell_blk kC 1
            go_wp2_with fail
            go_region_held3 (fun w' => w'.cell? ⟨b4 + 1, 0, none⟩ = some (.int .i64 0) ∧ w'.cell? ⟨b4 + 1, 1, none⟩ = some (.slice none 0 0) ∧ w'.cell? ⟨b4 + 1, 2, none⟩ = some (.slice ao l.length co) ∧ w'.cell? ⟨b4 + 1 + 1, 1, none⟩ = some (.bool false))
              (first | exact ⟨by rw [set3 n1]; exact ck _ _ c0, by rw [set3 n1]; exact ck _ _ c1, by rw [set3 n1]; exact ck _ _ c2, by rw [set3 n2]; exact ck _ _ cc⟩ | exact ⟨by with_reducible exact ck _ _ c0, ck _ _ c1, ck _ _ c2, ck _ _ cc⟩ | go_keep)
              (first | (go_at_call 42; refine HW.out.mono ?_; rintro e w7 ⟨rfl, hg⟩; have ck : ∀ (a : Addr) (x : Value), wr.cell? a = some x → w7.cell? a = some x := (fun a x hx => cell_of_grown hx (grown_trans (grown_drew (grown_refl wr)) hg)); have kR7 : w7.heap[b4]? = some (.cells #[.int .i64 0, .slice none 0 0, .slice none 0 0] 84) := (hg.block b4 (lt_of_heap kR) (by simp)).trans kR; have r0 : w7.cell? ⟨b4, 0, none⟩ = some (.int .i64 0) := cell_blk kR7 0; have r1 : w7.cell? ⟨b4, 1, none⟩ = some (.slice none 0 0) := cell_blk kR7 1; have r2 : w7.cell? ⟨b4, 2, none⟩ = some (.slice none 0 0) := cell_blk kR7 2; have z0 : w7.frozen? ⟨b4, 0, none⟩ = false := frozen_blk kR7 0; have z1 : w7.frozen? ⟨b4, 1, none⟩ = false := frozen_blk kR7 1; have z2 : w7.frozen? ⟨b4, 2, none⟩ = false := frozen_blk kR7 2))
            all_goals
              go_wp2_with fail
              have hF8 : Fr [] w (((w7.setCell ⟨b4, 0, none⟩ (.int .i64 0)).setCell ⟨b4, 1, none⟩ (.slice none 0 0)).setCell ⟨b4, 2, none⟩ (.slice ao l.length co)) := by
                iterate 3 refine Fr.setCell ?_ (.inr (by simp; omega)) _
                exact (hFD.drew).grown hg (by simp)
              have k8 : (((w7.setCell ⟨b4, 0, none⟩ (.int .i64 0)).setCell ⟨b4, 1, none⟩ (.slice none 0 0)).setCell ⟨b4, 2, none⟩ (.slice ao l.length co)).heap[b4]? = some (.cells #[.int .i64 0, .slice none 0 0, .slice ao l.length co] 84) := set3_blk kR7
              have hO8 : OpsNew n (.slice ao l.length co) l b4 (((w7.setCell ⟨b4, 0, none⟩ (.int .i64 0)).setCell ⟨b4, 1, none⟩ (.slice none 0 0)).setCell ⟨b4, 2, none⟩ (.slice ao l.length co)) := by
                have hx := (hO.kept (w' := wr.drew) (fun _ _ _ _ _ => rfl)).kept (w' := w7) (fun b t cur _ hb => hg.block b (lt_of_heap hb) (by simp))
                refine hx.kept (fun b t cur ht hb => ?_)
                have hne : b ≠ b4 := fun e => by
                  subst e
                  rw [kR7] at hb
                  have := Option.some.inj hb
                  injection this with _ h2
                  rcases ht with rfl | rfl <;> exact absurd h2 (by decide)
                iterate 3 rw [Below.heap_setCell _ _ _ _ hne]
              generalize (((w7.setCell ⟨b4, 0, none⟩ (.int .i64 0)).setCell ⟨b4, 1, none⟩ (.slice none 0 0)).setCell ⟨b4, 2, none⟩ (.slice ao l.length co)) = w8 at hF8 k8 hO8 ⊢
              clear r0 r1 r2 z0 z1 z2
              have e0 : w8.cell? ⟨b4, 0, none⟩ = some (.int .i64 0) := cell_blk k8 0
              have e1 : w8.cell? ⟨b4, 1, none⟩ = some (.slice none 0 0) := cell_blk k8 1
              have e2 : w8.cell? ⟨b4, 2, none⟩ = some (.slice ao l.length co) := cell_blk k8 2
              exact bodyPost_ret (v := .tuple #[.agg #[.int .i64 0, .slice none 0 0, .slice ao l.length co], .bool true]) (by simp [results, Tryz.results69, go_sem, e0, e1, e2]) rfl ⟨hF8.toGrown, .inr (.inr ⟨l, _, HG.out.1, h120, HG.out.2, by rw [hb4]; exact hO8, rfl⟩)⟩
          · have hEB : (M == D) = false := by simp [hMD]
            have HN : Hid (NoFr n D) := hide ⟨fun d hd _ e => by
              rw [e] at h0
              simp [sealB] at h0, fun u hu _ e => by
              have hL : L0 = bEnc n u := by rw [← hm, e, mid_seal]
              obtain ⟨q1, -, q3, -⟩ := HKN.out u hu hL
              apply hMD
              have : l = u := q3.trans (List.take_of_length_le (by omega))
              rw [HM.out, e, this]⟩
            clear hMD
            have c0 : wr.cell? ⟨b4 + 1, 0, none⟩ = some (.int .i64 0) := cell_blk kF 0
            have c1 : wr.cell? ⟨b4 + 1, 1, none⟩ = some (.slice none 0 0) := cell_blk kF 1
            have c2 : wr.cell? ⟨b4 + 1, 2, none⟩ = some (.slice ao l.length co) := cell_blk kF 2
            have cc : wr.cell? ⟨b4 + 1 + 1, 1, none⟩ = some (.bool false) := cell_blk kC 1
            go_wp2_with fail
            go_region_held3 (fun w' => w'.cell? ⟨b4 + 1, 0, none⟩ = some (.int .i64 0) ∧ w'.cell? ⟨b4 + 1, 1, none⟩ = some (.slice none 0 0) ∧ w'.cell? ⟨b4 + 1, 2, none⟩ = some (.slice ao l.length co) ∧ w'.cell? ⟨b4 + 1 + 1, 1, none⟩ = some (.bool false))
              (first | exact ⟨by rw [set3 n1]; exact ck _ _ c0, by rw [set3 n1]; exact ck _ _ c1, by rw [set3 n1]; exact ck _ _ c2, by rw [set3 n2]; exact ck _ _ cc⟩ | exact ⟨by with_reducible exact ck _ _ c0, ck _ _ c1, ck _ _ c2, ck _ _ cc⟩ | go_keep)
              (first | (go_at_call 42; refine HW.out.mono ?_; rintro e w7 ⟨rfl, hg⟩; have ck : ∀ (a : Addr) (x : Value), wr.cell? a = some x → w7.cell? a = some x := (fun a x hx => cell_of_grown hx (grown_trans (grown_drew (grown_refl wr)) hg)); have kR7 : w7.heap[b4]? = some (.cells #[.int .i64 0, .slice none 0 0, .slice none 0 0] 84) := (hg.block b4 (lt_of_heap kR) (by simp)).trans kR; have r0 : w7.cell? ⟨b4, 0, none⟩ = some (.int .i64 0) := cell_blk kR7 0; have r1 : w7.cell? ⟨b4, 1, none⟩ = some (.slice none 0 0) := cell_blk kR7 1; have r2 : w7.cell? ⟨b4, 2, none⟩ = some (.slice none 0 0) := cell_blk kR7 2; have z0 : w7.frozen? ⟨b4, 0, none⟩ = false := frozen_blk kR7 0; have z1 : w7.frozen? ⟨b4, 1, none⟩ = false := frozen_blk kR7 1; have z2 : w7.frozen? ⟨b4, 2, none⟩ = false := frozen_blk kR7 2))
            all_goals
              go_wp2_with fail
              have hF8 : Fr [] w (((w7.setCell ⟨b4, 0, none⟩ (.int .i64 0)).setCell ⟨b4, 1, none⟩ (.slice none 0 0)).setCell ⟨b4, 2, none⟩ (.slice ao l.length co)) := by
                iterate 3 refine Fr.setCell ?_ (.inr (by simp; omega)) _
                exact (hFD.drew).grown hg (by simp)
              have k8 : (((w7.setCell ⟨b4, 0, none⟩ (.int .i64 0)).setCell ⟨b4, 1, none⟩ (.slice none 0 0)).setCell ⟨b4, 2, none⟩ (.slice ao l.length co)).heap[b4]? = some (.cells #[.int .i64 0, .slice none 0 0, .slice ao l.length co] 84) := set3_blk kR7
              generalize (((w7.setCell ⟨b4, 0, none⟩ (.int .i64 0)).setCell ⟨b4, 1, none⟩ (.slice none 0 0)).setCell ⟨b4, 2, none⟩ (.slice ao l.length co)) = w8 at hF8 k8 ⊢
              clear r0 r1 r2 z0 z1 z2
              have e0 : w8.cell? ⟨b4, 0, none⟩ = some (.int .i64 0) := cell_blk k8 0
              have e1 : w8.cell? ⟨b4, 1, none⟩ = some (.slice none 0 0) := cell_blk k8 1
              have e2 : w8.cell? ⟨b4, 2, none⟩ = some (.slice ao l.length co) := cell_blk k8 2
              exact bodyPost_ret (v := .tuple #[.agg #[.int .i64 0, .slice none 0 0, .slice ao l.length co], .bool false]) (by simp [results, Tryz.results69, go_sem, e0, e1, e2]) rfl ⟨hF8.toGrown, .inl ⟨_, rfl, HN.out, _, _, _, _, _, _, _, rfl⟩⟩

/-- The document's Read, at any bytes. -/
theorem readR8 (n : Nat) (h1 : 1 ≤ n) (h8 : n ≤ 8) (D : List UInt8) (w : World) :
    Calls Tryz.prog 69 #[str D, .int .i64 n] w fun e w' => RReadCu n D w e w' := by
  by_cases h : D.length ≤ 120 ∧ 6 ≤ D.length
  · obtain ⟨hd, h0⟩ : ∃ x, D[0]? = some x := ⟨D[0]'(by omega), List.getElem?_eq_getElem _⟩
    by_cases e1 : hd = 68
    · subst e1
      exact readRdig n h8 D _ (D.length - 4) (by omega) h.1 h.2 h0 rfl w
    · by_cases e2 : hd = 66
      · subst e2
        exact readRbat n h1 h8 D _ (D.length - 4) (by omega) h.1 h.2 h0 rfl w
      · exact readRother n h8 D _ hd (D.length - 4) (by omega) h.1 h.2 h0 rfl e1 e2 w
  · exact readRshort n D h w

end Go.Proofs.YtachmkhbbbmioaaGreat

namespace Go.Proofs.YtachmkhbbbmioaaGreat
open Go.RowKit

/-! Bytes of one frame are bytes of no other. -/

theorem vbI_one {u u' : Int} {r r' : List UInt8} (h : N7 u) (h' : N7 u') (e : vbI u ++ r = vbI u' ++ r') : u = u' ∧ r = r' := by
  obtain ⟨c, -⟩ := rnum_cmp (vbI u ++ r) false
  have a := c rfl u r h rfl
  have b := c rfl u' r' h' e
  exact ⟨a.2.1.symm.trans b.2.1, a.2.2.symm.trans b.2.2⟩

theorem vbs_one : ∀ {xs ys : List Int} {r r' : List UInt8}, xs.length = ys.length → (∀ x ∈ xs, N7 x) → (∀ y ∈ ys, N7 y) → vbs xs ++ r = vbs ys ++ r' → xs = ys ∧ r = r'
  | [], [], _, _, _, _, _, e => ⟨rfl, by simpa [vbs] using e⟩
  | [], y :: ys, _, _, hl, _, _, _ => by simp at hl
  | x :: xs, [], _, _, hl, _, _, _ => by simp at hl
  | x :: xs, y :: ys, r, r', hl, h1, h2, e => by
    have e' : vbI x ++ (vbs xs ++ r) = vbI y ++ (vbs ys ++ r') := by
      rw [← List.append_assoc, ← List.append_assoc]
      exact e
    obtain ⟨a, b⟩ := vbI_one (h1 x (by simp)) (h2 y (by simp)) e'
    obtain ⟨c, d⟩ := vbs_one (by simpa using hl) (fun z hz => h1 z (by simp [hz])) (fun z hz => h2 z (by simp [hz])) b
    exact ⟨by rw [a, c], d⟩

theorem clk_one {n : Nat} {p q : Nat → Int} (hp : ∀ i, n ≤ i → p i = 0) (hq : ∀ i, n ≤ i → q i = 0) (e : clk n p = clk n q) : p = q := by
  rw [← qOf_clk hp, ← qOf_clk hq, e]

theorem clk_n7 {n : Nat} {q : Nat → Int} (h : ∀ i, i < n → 0 ≤ q i ∧ q i ≤ 100) : ∀ y ∈ clk n q, N7 y := fun y hy => by
  obtain ⟨i, hi, rfl⟩ := clk_mem hy
  have := h i hi
  exact ⟨by omega, by omega⟩

theorem opB_one {n : Nat} (h8 : n ≤ 8) {x y : OpR} {r r' : List UInt8} (hx : Ok8 n x) (hy : Ok8 n y) (e : x.bytes n ++ r = y.bytes n ++ r') : x = y ∧ r = r' := by
  rw [bytes_eq, bytes_eq] at e
  simp only [List.append_assoc, tEnc] at e
  have a1 := hx.o
  have a2 := hx.num
  have a3 := hx.c
  have a4 := hx.kind
  have a5 := hx.tgt
  have b1 := hy.o
  have b2 := hy.num
  have b3 := hy.c
  have b4 := hy.kind
  have b5 := hy.tgt
  obtain ⟨v1, e⟩ := vbI_one ⟨by omega, by omega⟩ ⟨by omega, by omega⟩ e
  obtain ⟨v2, e⟩ := vbI_one ⟨by omega, by omega⟩ ⟨by omega, by omega⟩ e
  obtain ⟨v3, e⟩ := vbI_one ⟨by omega, by omega⟩ ⟨by omega, by omega⟩ e
  obtain ⟨v4, e⟩ := vbI_one ⟨by omega, by omega⟩ ⟨by omega, by omega⟩ e
  obtain ⟨v5, e⟩ := vbI_one ⟨by omega, by omega⟩ ⟨by omega, by omega⟩ e
  obtain ⟨v6, e⟩ := vbI_one ⟨by omega, by omega⟩ ⟨by omega, by omega⟩ e
  have v7 : x.r = y.r ∧ cEnc n x.q ++ r = cEnc n y.q ++ r' := by
    by_cases k0 : x.kind = 0
    · have k0' : y.kind = 0 := by omega
      have s1 := hx.r k0
      have s2 := hy.r k0'
      simp only [rEnc, k0, k0', if_true] at e
      exact vbI_one ⟨s1.1, by have := s1.2.1; omega⟩ ⟨s2.1, by have := s2.2.1; omega⟩ e
    · have k1 : x.kind = 1 := by omega
      have k1' : y.kind = 1 := by omega
      refine ⟨by rw [hx.r1 k1, hy.r1 k1'], ?_⟩
      simpa [rEnc, k1, k1'] using e
  obtain ⟨v8, e⟩ := vbs_one (by rw [clk_len, clk_len]) (clk_n7 hx.q) (clk_n7 hy.q) v7.2
  have v9 := clk_one hx.q0 hy.q0 v8
  refine ⟨?_, e⟩
  cases x
  cases y
  simp only [OpR.mk.injEq]
  exact ⟨v1, v2, v3, v4, v5, v6, v7.1, v9⟩

theorem ops_one {n : Nat} (h8 : n ≤ 8) : ∀ {l m : List OpR} {r r' : List UInt8}, l.length = m.length → (∀ x ∈ l, Ok8 n x) → (∀ y ∈ m, Ok8 n y) → opsEnc n l ++ r = opsEnc n m ++ r' → l = m ∧ r = r'
  | [], [], _, _, _, _, _, e => ⟨rfl, by simpa [opsEnc] using e⟩
  | [], y :: ys, _, _, hl, _, _, _ => by simp at hl
  | x :: xs, [], _, _, hl, _, _, _ => by simp at hl
  | x :: xs, y :: ys, r, r', hl, h1, h2, e => by
    have e' : x.bytes n ++ (opsEnc n xs ++ r) = y.bytes n ++ (opsEnc n ys ++ r') := by
      simpa [opsEnc] using e
    obtain ⟨a, b⟩ := opB_one h8 (h1 x (by simp)) (h2 y (by simp)) e'
    obtain ⟨c, d⟩ := ops_one h8 (by simpa using hl) (fun z hz => h1 z (by simp [hz])) (fun z hz => h2 z (by simp [hz])) b
    exact ⟨by rw [a, c], d⟩

theorem seal_one {m m' : List UInt8} (e : sealB m = sealB m') : m = m' := by
  rw [← seal_take m, e, seal_take]

theorem dig_one {n : Nat} (h8 : n ≤ 8) {d d' : Int × (Nat → Int)} (h : dOk n d) (h' : dOk n d') (e : sealB (68 :: dEnc n d) = sealB (68 :: dEnc n d')) : d = d' := by
  have e1 := (List.cons.inj (seal_one e)).2
  obtain ⟨s, q⟩ := d
  obtain ⟨s', q'⟩ := d'
  have a := h.1
  have b := h'.1
  simp only at a b
  obtain ⟨v1, e2⟩ := vbI_one ⟨by omega, by omega⟩ ⟨by omega, by omega⟩ e1
  obtain ⟨v2, -⟩ := vbs_one (r := []) (r' := []) (by rw [clk_len, clk_len]) (clk_n7 h.2.1) (clk_n7 h'.2.1) (by simpa [cEnc] using e2)
  have v3 := clk_one h.2.2 h'.2.2 v2
  simp only at v1 v3
  rw [v1, v3]

theorem bat_one {n : Nat} (h8 : n ≤ 8) {l m : List OpR} (h : bOk n l) (h' : bOk n m) (e : sealB (66 :: bEnc n l) = sealB (66 :: bEnc n m)) : l = m := by
  have e1 := (List.cons.inj (seal_one e)).2
  have a := h.1
  have b := h'.1
  obtain ⟨v1, e2⟩ := vbI_one ⟨by omega, by omega⟩ ⟨by omega, by omega⟩ e1
  obtain ⟨v2, -⟩ := ops_one h8 (r := []) (r' := []) (by omega) h.2 h'.2 (by simpa using e2)
  exact v2

theorem dig_bat {n : Nat} {d : Int × (Nat → Int)} {l : List OpR} (e : sealB (68 :: dEnc n d) = sealB (66 :: bEnc n l)) : False := by
  have e1 := (List.cons.inj (seal_one e)).1
  exact absurd e1 (by decide)

end Go.Proofs.YtachmkhbbbmioaaGreat

namespace Go.Proofs.YtachmkhbbbmioaaGreat
open Go.RowKit Go.Shelf

set_option maxRecDepth 100000 in
set_option maxHeartbeats 4000000 in
theorem stHandNo (sb ma mp lb mb : Nat) (S : CS) (hG : Good S) (D : List UInt8) (hD : NoFr S.n D) (w : World) (hS : StAt sb ma mp lb mb S w) :
    Calls Tryz.prog 64 #[.pointer (some ⟨sb, 0, none⟩), str D] w fun e w' => e = .returned (.tuple #[.slice none 0 0, .int .i64 6]) ∧ w.grownBy w' none := by
  have h8 := hG.n8
  have h1 : 1 ≤ S.n := Nat.le_trans hG.s1 hG.sn
  have c0 : w.cell? ⟨sb, 0, none⟩ = some (.int .i64 S.n) := cell_blk hS.st 0
  have HR : Hid (Calls Tryz.prog 87 #[.int .i64 S.n, str D] w fun e w' => e = .returned (.tuple #[.agg #[.int .i64 0, .int .i64 0, .int .i64 0, .int .i64 0, .int .i64 0, .int .i64 0, .int .i64 0, .int .i64 0, .int .i64 0, .int .i64 0, .slice none 0 0], .bool false]) ∧ w.grownBy w' none) := hide ((readP S.n h1 h8 D w).mono (by
    rintro e w' ⟨g, ⟨rfl, -⟩ | ⟨s, q, hd, hl, he, -⟩ | ⟨l, v, hb, hl, he, -⟩⟩
    · exact ⟨rfl, g⟩
    · exact (hD.1 _ hd hl he).elim
    · exact (hD.2 _ hb hl he).elim))
  clear hS hD
  go_enter Tryz.func64, Tryz.ntmps64
  go_wp2_with fail
  refine HR.out.mono ?_
  rintro e w1 ⟨rfl, g1⟩
  go_wp2_with fail
  exact bodyPost_ret (v := .tuple #[.slice none 0 0, .int .i64 6]) (by simp [results, Tryz.results64, go_sem]) rfl ⟨rfl, grown_trans g1 (grown_alloc (grown_refl _) _)⟩

set_option maxRecDepth 100000 in
set_option maxHeartbeats 8000000 in
theorem stHandBat (sb ma mp lb mb : Nat) (S : CS) (hI : Inv S) (l : List OpR) (hl : bOk S.n l) (w : World) (hS : StAt sb ma mp lb mb S w) (h120 : (sealB (66 :: bEnc S.n l)).length ≤ 120) :
    Calls Tryz.prog 64 #[.pointer (some ⟨sb, 0, none⟩), str (sealB (66 :: bEnc S.n l))] w fun e w' => e = .returned (.tuple #[.slice none 0 0, .int .i64 0]) ∧ StAt sb ma mp lb mb (takesAll S l) w' ∧ Fr (own5 sb ma mp mb) w w' := by
  have hG := hI.good
  have h8 := hG.n8
  have h1 : 1 ≤ S.n := Nat.le_trans hG.s1 hG.sn
  have hlt := hS.lts
  have hll := hl.1
  have c0 : w.cell? ⟨sb, 0, none⟩ = some (.int .i64 S.n) := cell_blk hS.st 0
  have HR : Hid (Calls Tryz.prog 87 #[.int .i64 S.n, str (sealB (66 :: bEnc S.n l))] w fun e w' => ∃ v, e = .returned (.tuple #[.agg (frArr 1 0 (fun _ => 0) v), .bool true]) ∧ RowAt 154 15 v (opRow l) w' ∧ (∀ g, v.ownBlock = some g → w.heap.size ≤ g) ∧ w.grownBy w' none) := hide ((readP S.n h1 h8 _ w).mono (by
    rintro e w' ⟨g, ⟨-, hn⟩ | ⟨s, q, hd, -, he, -⟩ | ⟨l', v, hb, -, he, hv, ho, rfl⟩⟩
    · exact (hn.2 _ hl h120 rfl).elim
    · exact (dig_bat he.symm).elim
    · rw [← bat_one h8 hl hb he] at hv
      exact ⟨v, rfl, hv, ho, g⟩))
  generalize sealB (66 :: bEnc S.n l) = D at HR ⊢
  clear h120
  go_enter Tryz.func64, Tryz.ntmps64
  go_wp2_with fail
  refine HR.out.mono ?_
  rintro e w1 ⟨v, rfl, hv, hvo, g1⟩
  obtain ⟨av, cv, rfl, -⟩ := hv.value
  rw [opRow_len] at hv hvo ⊢
  unfold frArr
  go_upto_region 8 with fail
  have g2 : w1.grownBy (w1.alloc (.cells #[.int .i64 1, .int .i64 0, .int .i64 0, .int .i64 0, .int .i64 0, .int .i64 0, .int .i64 0, .int .i64 0, .int .i64 0, .int .i64 0, .slice av l.length cv] 143)) none := grown_alloc (grown_refl _) _
  have k2 : (w1.alloc (.cells #[.int .i64 1, .int .i64 0, .int .i64 0, .int .i64 0, .int .i64 0, .int .i64 0, .int .i64 0, .int .i64 0, .int .i64 0, .int .i64 0, .slice av l.length cv] 143)).heap[w1.heap.size]? = some (.cells #[.int .i64 1, .int .i64 0, .int .i64 0, .int .i64 0, .int .i64 0, .int .i64 0, .int .i64 0, .int .i64 0, .int .i64 0, .int .i64 0, .slice av l.length cv] 143) := by rw [heap_alloc_at]; simp
  generalize (w1.alloc (.cells #[.int .i64 1, .int .i64 0, .int .i64 0, .int .i64 0, .int .i64 0, .int .i64 0, .int .i64 0, .int .i64 0, .int .i64 0, .int .i64 0, .slice av l.length cv] 143)) = w2 at g2 k2 ⊢
  have hv2 := hv.grown g2
  have hS2 := hS.grown (grown_trans g1 g2)
  have hF2 : Fr (own5 sb ma mp mb) w w2 := (Fr.refl _ w).grown (grown_trans g1 g2) (by simp)
  generalize w1.heap.size = bf at k2 ⊢
  have d10 : w2.cell? ⟨bf, 10, none⟩ = some (.slice av l.length cv) := cell_blk k2 10
  clear HR g1 g2 k2 hv c0
  go_wp2_with fail
  go_loopg [39] l.length (fun gk s39 wr => ∃ i : Nat, s39 = .int .i64 i ∧ i ≤ l.length ∧ gk = l.length - i ∧ Hid (StAt sb ma mp lb mb (takesAll S (l.take i)) wr) ∧ RowAt 154 15 (.slice av l.length cv) (opRow l) wr ∧ Hid (Fr (own5 sb ma mp mb) w wr))
  case atStart => exact ⟨0, rfl, by omega, rfl, hide hS2, hv2, hide hF2⟩
  case round =>
    obtain ⟨i, rfl, hil, hgk, HSr, hvr, HFr⟩ := hrel
    by_cases hli0 : i < l.length
    · have hli : (i : Int) < (l.length : Int) := by omega
      obtain ⟨y, hy⟩ : ∃ y, l[i]? = some y := ⟨l[i], by simp [hli0]⟩
      have hm := List.mem_of_getElem? hy
      obtain ⟨gv, cv', cur, hv', -, hb, hc⟩ := hvr.cell (i := i) (x := y.arr.toList) (by simp [opRow, hy])
      rw [opRow_len] at hv'
      cases hv'
      have r0 : wr.cell? ⟨gv, i * 15, none⟩ = some (.int .i64 y.o) := (cell_blk hb _).trans (hc 0 _ rfl)
      have r1 : wr.cell? ⟨gv, i * 15 + 1, none⟩ = some (.int .i64 y.num) := (cell_blk hb _).trans (hc 1 _ rfl)
      have r2 : wr.cell? ⟨gv, i * 15 + 2, none⟩ = some (.int .i64 y.c) := (cell_blk hb _).trans (hc 2 _ rfl)
      have r3 : wr.cell? ⟨gv, i * 15 + 3, none⟩ = some (.int .i64 y.kind) := (cell_blk hb _).trans (hc 3 _ rfl)
      have r4 : wr.cell? ⟨gv, i * 15 + 4, none⟩ = some (.int .i64 y.tc) := (cell_blk hb _).trans (hc 4 _ rfl)
      have r5 : wr.cell? ⟨gv, i * 15 + 5, none⟩ = some (.int .i64 y.tk) := (cell_blk hb _).trans (hc 5 _ rfl)
      have r6 : wr.cell? ⟨gv, i * 15 + 6, none⟩ = some (.int .i32 y.r) := (cell_blk hb _).trans (hc 6 _ rfl)
      have r7 : wr.cell? ⟨gv, i * 15 + 7, none⟩ = some (.int .i64 (y.q 0)) := (cell_blk hb _).trans (hc 7 _ rfl)
      have r8 : wr.cell? ⟨gv, i * 15 + 8, none⟩ = some (.int .i64 (y.q 1)) := (cell_blk hb _).trans (hc 8 _ rfl)
      have r9 : wr.cell? ⟨gv, i * 15 + 9, none⟩ = some (.int .i64 (y.q 2)) := (cell_blk hb _).trans (hc 9 _ rfl)
      have r10 : wr.cell? ⟨gv, i * 15 + 10, none⟩ = some (.int .i64 (y.q 3)) := (cell_blk hb _).trans (hc 10 _ rfl)
      have r11 : wr.cell? ⟨gv, i * 15 + 11, none⟩ = some (.int .i64 (y.q 4)) := (cell_blk hb _).trans (hc 11 _ rfl)
      have r12 : wr.cell? ⟨gv, i * 15 + 12, none⟩ = some (.int .i64 (y.q 5)) := (cell_blk hb _).trans (hc 12 _ rfl)
      have r13 : wr.cell? ⟨gv, i * 15 + 13, none⟩ = some (.int .i64 (y.q 6)) := (cell_blk hb _).trans (hc 13 _ rfl)
      have r14 : wr.cell? ⟨gv, i * 15 + 14, none⟩ = some (.int .i64 (y.q 7)) := (cell_blk hb _).trans (hc 14 _ rfl)
      have g3 : wr.grownBy (wr.alloc (.cells #[.int .i64 y.o, .int .i64 y.num, .int .i64 y.c, .int .i64 y.kind, .int .i64 y.tc, .int .i64 y.tk, .int .i32 y.r, .int .i64 (y.q 0), .int .i64 (y.q 1), .int .i64 (y.q 2), .int .i64 (y.q 3), .int .i64 (y.q 4), .int .i64 (y.q 5), .int .i64 (y.q 6), .int .i64 (y.q 7)] 154)) none := grown_alloc (grown_refl _) _
      have HI := inv_takesAll (l.take i) hI (fun z hz => hl.2 z (List.mem_of_mem_take hz))
      have H8 : Ok8 (takesAll S (l.take i)).n y := by rw [(takesAll_n S _).1]; exact hl.2 y hm
      have HT := hide (take_any sb ma mp lb mb (takesAll S (l.take i)) HI y H8 (wr.alloc (.cells #[.int .i64 y.o, .int .i64 y.num, .int .i64 y.c, .int .i64 y.kind, .int .i64 y.tc, .int .i64 y.tk, .int .i32 y.r, .int .i64 (y.q 0), .int .i64 (y.q 1), .int .i64 (y.q 2), .int .i64 (y.q 3), .int .i64 (y.q 4), .int .i64 (y.q 5), .int .i64 (y.q 6), .int .i64 (y.q 7)] 154)) (HSr.out.grown g3))
      have HE := hide (takesAll_take S l i hy)
      have hsz : w.heap.size ≤ wr.heap.size := HFr.out.size
      have hFw : Fr (own5 sb ma mp mb) w (wr.alloc (.cells #[.int .i64 y.o, .int .i64 y.num, .int .i64 y.c, .int .i64 y.kind, .int .i64 y.tc, .int .i64 y.tk, .int .i32 y.r, .int .i64 (y.q 0), .int .i64 (y.q 1), .int .i64 (y.q 2), .int .i64 (y.q 3), .int .i64 (y.q 4), .int .i64 (y.q 5), .int .i64 (y.q 6), .int .i64 (y.q 7)] 154)) := HFr.out.grown g3 (by simp)
      have hvw := hvr.grown g3
      have hgv : w.heap.size ≤ gv := hvo gv rfl
      clear HI H8 hm hb hc hy HSr HFr hvr
      go_wp2_with fail
      generalize (wr.alloc (.cells #[.int .i64 y.o, .int .i64 y.num, .int .i64 y.c, .int .i64 y.kind, .int .i64 y.tc, .int .i64 y.tk, .int .i32 y.r, .int .i64 (y.q 0), .int .i64 (y.q 1), .int .i64 (y.q 2), .int .i64 (y.q 3), .int .i64 (y.q 4), .int .i64 (y.q 5), .int .i64 (y.q 6), .int .i64 (y.q 7)] 154)) = w3 at HT hFw hvw ⊢
      refine HT.out.mono ?_
      rintro e w4 ⟨rfl, hS4, hF4⟩
      have hv4 : RowAt 154 15 (.slice (some ⟨gv, 0, none⟩) l.length cv) (opRow l) w4 := hvw.kept (fun g hg => hF4.block g (hvw.lt hg) (fun q => by
        have hge := hvo g hg
        have h1 := hlt sb (by simp)
        have h2 := hlt ma (by simp)
        have h3 := hlt mp (by simp)
        have h4 := hlt mb (by simp)
        simp only [List.mem_cons, List.not_mem_nil, or_false] at q
        omega))
      go_wp2_with fail
      go_roundg (l.length - (i + 1))
      case measure => omega
      case rel => exact ⟨i + 1, by go_num, by omega, rfl, hide (by rw [HE.out]; exact hS4), hv4, hide (hFw.trans hF4)⟩
    · have e : l.take i = l := List.take_of_length_le (by omega)
      have HS : Hid (StAt sb ma mp lb mb (takesAll S l) wr) := hide (by have := HSr.out; rwa [e] at this)
      go_wp2_with fail
      exact bodyPost_ret (v := .tuple #[.slice none 0 0, .int .i64 0]) (by simp [results, Tryz.results64, go_sem]) rfl ⟨rfl, HS.out, HFr.out⟩

end Go.Proofs.YtachmkhbbbmioaaGreat

namespace Go.Proofs.YtachmkhbbbmioaaGreat
open Go.RowKit Go.Shelf

/-- The rows of operations, each with a clock. -/
def WtAt (wt : List (List Value)) (ws : List OpR) : Prop := wt.length = ws.length ∧ ∀ (j : Nat) (x : OpR), ws[j]? = some x → ∃ vk, wt[j]? = some (opCells x vk)

def WaitsR (ws : List OpR) (o num : Int) (w : World) (e : Ending) (w' : World) : Prop := ∃ b, e = .returned (.bool b) ∧ w.grownBy w' none ∧ (b = true ↔ ∃ x ∈ ws, x.o = o ∧ x.num = num)

set_option maxRecDepth 100000 in
set_option maxHeartbeats 4000000 in
theorem ref_waits (yb : Nat) (S : CS) (vc vl vw vL : Value) (log wt : List (List Value)) (ws : List OpR) (hws : WtAt wt ws) (hl : ws.length ≤ 1000) (o num c kind tc tk r : Int) (va : Option Addr) (vn vp : Nat) (w : World) (h : RefAt yb S vc vl vw vL log wt w) :
    Calls Tryz.prog 100 #[.pointer (some ⟨yb, 0, none⟩), .agg #[.int .i64 o, .int .i64 num, .int .i64 c, .int .i64 kind, .int .i64 tc, .int .i64 tk, .int .i64 r, .slice va vn vp]] w fun e w' => WaitsR ws o num w e w' := by
  obtain ⟨aw, cw, rfl, -⟩ := h.wt.value
  rw [hws.1] at h
  go_enter Tryz.func100, Tryz.ntmps100
  go_upto_region 1 with fail
  have g1 : w.grownBy (w.alloc (.cells #[.int .i64 o, .int .i64 num, .int .i64 c, .int .i64 kind, .int .i64 tc, .int .i64 tk, .int .i64 r, .slice va vn vp] 88)) none := grown_alloc (grown_refl _) _
  have kb : (w.alloc (.cells #[.int .i64 o, .int .i64 num, .int .i64 c, .int .i64 kind, .int .i64 tc, .int .i64 tk, .int .i64 r, .slice va vn vp] 88)).heap[w.heap.size]? = some (.cells #[.int .i64 o, .int .i64 num, .int .i64 c, .int .i64 kind, .int .i64 tc, .int .i64 tk, .int .i64 r, .slice va vn vp] 88) := by rw [heap_alloc_at]; simp
  generalize (w.alloc (.cells #[.int .i64 o, .int .i64 num, .int .i64 c, .int .i64 kind, .int .i64 tc, .int .i64 tk, .int .i64 r, .slice va vn vp] 88)) = w1 at g1 kb ⊢
  have h1 := h.grown g1
  generalize w.heap.size = bb at kb ⊢
  clear h
  go_wp2_with fail
  go_loopg [5] ws.length (fun gk s5 wr => ∃ i : Nat, s5 = .int .i64 i ∧ i ≤ ws.length ∧ gk = ws.length - i ∧ w1.grownBy wr none ∧ Hid (∀ j x, j < i → ws[j]? = some x → ¬ (x.o = o ∧ x.num = num)))
  case atStart => exact ⟨0, rfl, by omega, rfl, grown_refl _, hide (by intro j x hj; omega)⟩
  case round =>
    obtain ⟨i, rfl, hil, hgk, hG, hno⟩ := hrel
    have hr := h1.grown hG
    have kr := (hG.block _ (lt_of_heap kb) (by simp)).trans kb
    have c5 : wr.cell? ⟨yb, 5, none⟩ = some (.slice aw ws.length cw) := cell_blk hr.cp 5
    have d0 : wr.cell? ⟨bb, 0, none⟩ = some (.int .i64 o) := cell_blk kr 0
    have d1 : wr.cell? ⟨bb, 1, none⟩ = some (.int .i64 num) := cell_blk kr 1
    by_cases hlt : i < ws.length
    · have hli : (i : Int) < (ws.length : Int) := by omega
      obtain ⟨x, hx⟩ : ∃ x, ws[i]? = some x := ⟨ws[i], by simp [hlt]⟩
      obtain ⟨vk, hk⟩ := hws.2 i x hx
      obtain ⟨gw, cw', cur, hv', -, hb, hc⟩ := hr.wt.cell (i := i) hk
      rw [hws.1] at hv'
      cases hv'
      have r0 : wr.cell? ⟨gw, i * 8, none⟩ = some (.int .i64 x.o) := (cell_blk hb _).trans (hc 0 _ rfl)
      have r1 : wr.cell? ⟨gw, i * 8 + 1, none⟩ = some (.int .i64 x.num) := (cell_blk hb _).trans (hc 1 _ rfl)
      have HX := hide hx
      clear hc hb hk hx
      by_cases e1 : x.o = o
      · have b1 : (x.o == o) = true := by simp [e1]
        by_cases e2 : x.num = num
        · have b2 : (x.num == num) = true := by simp [e2]
          have HY : Hid (∃ y ∈ ws, y.o = o ∧ y.num = num) := hide ⟨x, List.mem_of_getElem? HX.out, e1, e2⟩
          clear e1 e2
          go_wp2_with fail
          go_quiet (fail)
          go_wp2_with fail
          exact bodyPost_ret (v := .bool true) (by simp [results, Tryz.results100, go_sem]) rfl ⟨true, rfl, grown_trans g1 (grown_trans hG (grown_drewN _ _)), by simpa using HY.out⟩
        · have b2 : (x.num == num) = false := by simp [e2]
          have HE := hide e2
          clear e1 e2
          go_wp2_with fail
          go_quiet (fail)
          go_wp2_with fail
          go_roundg (ws.length - (i + 1))
          case measure => omega
          case rel =>
            refine ⟨i + 1, by go_num, by omega, rfl, grown_trans hG (grown_drewN _ _), hide ?_⟩
            intro j y hj hy hc
            by_cases e : j = i
            · subst e; rw [HX.out] at hy; cases hy; exact HE.out hc.2
            · exact hno.out j y (by omega) hy hc
      · have b1 : (x.o == o) = false := by simp [e1]
        have HE := hide e1
        clear e1
        go_wp2_with fail
        go_quiet (fail)
        go_wp2_with fail
        go_roundg (ws.length - (i + 1))
        case measure => omega
        case rel =>
          refine ⟨i + 1, by go_num, by omega, rfl, grown_trans hG (grown_drewN _ _), hide ?_⟩
          intro j y hj hy hc
          by_cases e : j = i
          · subst e; rw [HX.out] at hy; cases hy; exact HE.out hc.1
          · exact hno.out j y (by omega) hy hc
    · have HY : Hid (¬ ∃ y ∈ ws, y.o = o ∧ y.num = num) := hide (fun ⟨y, hy, hc⟩ => by
        obtain ⟨j, hj⟩ := List.mem_iff_getElem?.1 hy
        exact hno.out j y (by have := (List.getElem?_eq_some_iff.1 hj).1; omega) hj hc)
      go_wp2_with fail
      exact bodyPost_ret (v := .bool false) (by simp [results, Tryz.results100, go_sem]) rfl ⟨false, rfl, grown_trans g1 hG, by simpa using HY.out⟩

end Go.Proofs.YtachmkhbbbmioaaGreat

namespace Go.Proofs.YtachmkhbbbmioaaGreat
open Go.RowKit Go.Shelf

/-- An operation is ready (P11). -/
def Rdy (S : CS) (p : Nat) (num c kind tc tk : Int) (q : Nat → Int) : Prop :=
  num = S.cl p + 1 ∧ (∀ i, i < S.n → q i ≤ S.cl i) ∧ (tc = 0 ∨ 0 ≤ findI tc tk S.L 0) ∧ (kind = 1 ∨ findI c ((p : Int) + 1) S.L 0 < 0)

def ReadyR (S : CS) (p : Nat) (num c kind tc tk : Int) (q : Nat → Int) (w : World) (e : Ending) (w' : World) : Prop := ∃ b, e = .returned (.bool b) ∧ w.grownBy w' none ∧ (b = true ↔ Rdy S p num c kind tc tk q)

set_option maxRecDepth 100000 in
set_option maxHeartbeats 4000000 in
theorem ref_ready (yb : Nat) (S : CS) (vc vl vw vL : Value) (log wt : List (List Value)) (hcl : ∀ i, i < S.n → 0 ≤ S.cl i ∧ S.cl i ≤ 100) (hn8 : S.n ≤ 8) (hlen : S.L.length ≤ 1000000) (p : Nat) (hp : p < S.n) (num c kind tc tk r : Int) (q : Nat → Int) (va : Option Addr) (vp : Nat) (w : World) (h : RefAt yb S vc vl vw vL log wt w) (hk : RowAt 3 1 (.slice va S.n vp) (intRow (clk S.n q)) w) :
    Calls Tryz.prog 101 #[.pointer (some ⟨yb, 0, none⟩), .agg #[.int .i64 ((p : Int) + 1), .int .i64 num, .int .i64 c, .int .i64 kind, .int .i64 tc, .int .i64 tk, .int .i64 r, .slice va S.n vp]] w fun e w' => ReadyR S p num c kind tc tk q w e w' := by
  obtain ⟨gc, cc, curc, hvc, -, hbc, hcc⟩ := h.ck.cell (i := p) (ckRow_at S hp)
  have hckl : (ckRow S).length = S.n := by simp [ckRow]
  rw [hckl] at hvc
  subst hvc
  clear hbc hcc curc
  go_enter Tryz.func101, Tryz.ntmps101
  go_upto_region 1 with fail
  have g1 : w.grownBy (w.alloc (.cells #[.int .i64 ((p : Int) + 1), .int .i64 num, .int .i64 c, .int .i64 kind, .int .i64 tc, .int .i64 tk, .int .i64 r, .slice va S.n vp] 88)) none := grown_alloc (grown_refl _) _
  have kb : (w.alloc (.cells #[.int .i64 ((p : Int) + 1), .int .i64 num, .int .i64 c, .int .i64 kind, .int .i64 tc, .int .i64 tk, .int .i64 r, .slice va S.n vp] 88)).heap[w.heap.size]? = some (.cells #[.int .i64 ((p : Int) + 1), .int .i64 num, .int .i64 c, .int .i64 kind, .int .i64 tc, .int .i64 tk, .int .i64 r, .slice va S.n vp] 88) := by rw [heap_alloc_at]; simp
  generalize (w.alloc (.cells #[.int .i64 ((p : Int) + 1), .int .i64 num, .int .i64 c, .int .i64 kind, .int .i64 tc, .int .i64 tk, .int .i64 r, .slice va S.n vp] 88)) = w1 at g1 kb ⊢
  have h1 := h.grown g1
  have hk1 := hk.grown g1
  generalize w.heap.size = bb at kb ⊢
  clear h hk
  have hclp := hcl p hp
  have hpn : (p : Int) < (S.n : Int) := by omega
  have hwp : IntKind.i64.wrap ((p : Int) + 1 - 1) = (p : Int) := by rw [IntKind.wrap_i64]; omega
  have hwc : IntKind.i64.wrap (S.cl p + 1) = S.cl p + 1 := by rw [IntKind.wrap_i64]; omega
  obtain ⟨gc', cc', curc, hvc, -, hbc, hcc⟩ := h1.ck.cell (i := p) (ckRow_at S hp)
  rw [hckl] at hvc
  cases hvc
  have e2 : w1.cell? ⟨yb, 2, none⟩ = some (.slice (some ⟨gc, 0, none⟩) S.n cc) := cell_blk h1.cp 2
  have ep : w1.cell? ⟨gc, p, none⟩ = some (.int .i64 (S.cl p)) := (cell_blk hbc _).trans (by simpa using hcc 0 _ rfl)
  have d0 : w1.cell? ⟨bb, 0, none⟩ = some (.int .i64 ((p : Int) + 1)) := cell_blk kb 0
  have d1 : w1.cell? ⟨bb, 1, none⟩ = some (.int .i64 num) := cell_blk kb 1
  clear hcc hbc
  by_cases hnum : num = S.cl p + 1
  · have hnb : (num != S.cl p + 1) = false := by simp [hnum]
    have HNUM := hide hnum
    clear hnum
    go_wp2_with fail
    go_quiet (fail)
    go_wp2_with fail
    go_loopg [5] S.n (fun gk s5 wr => ∃ i : Nat, s5 = .int .i64 i ∧ i ≤ S.n ∧ gk = S.n - i ∧ w1.grownBy wr none ∧ Hid (∀ j, j < i → q j ≤ S.cl j))
    case atStart => exact ⟨0, rfl, by omega, rfl, grown_drewN _ _, hide (by intro j hj; omega)⟩
    case round =>
      clear e2 ep d0 d1
      obtain ⟨i, rfl, hil, hgk, hG, hso⟩ := hrel
      have hr := h1.grown hG
      have hkr := hk1.grown hG
      have kr := (hG.block _ (lt_of_heap kb) (by simp)).trans kb
      have e0 : wr.cell? ⟨yb, 0, none⟩ = some (.int .i64 S.n) := cell_blk hr.cp 0
      have e2 : wr.cell? ⟨yb, 2, none⟩ = some (.slice (some ⟨gc, 0, none⟩) S.n cc) := cell_blk hr.cp 2
      have d0 : wr.cell? ⟨bb, 0, none⟩ = some (.int .i64 ((p : Int) + 1)) := cell_blk kr 0
      have d2 : wr.cell? ⟨bb, 2, none⟩ = some (.int .i64 c) := cell_blk kr 2
      have d3 : wr.cell? ⟨bb, 3, none⟩ = some (.int .i64 kind) := cell_blk kr 3
      have d4 : wr.cell? ⟨bb, 4, none⟩ = some (.int .i64 tc) := cell_blk kr 4
      have d5 : wr.cell? ⟨bb, 5, none⟩ = some (.int .i64 tk) := cell_blk kr 5
      have d7 : wr.cell? ⟨bb, 7, none⟩ = some (.slice va S.n vp) := cell_blk kr 7
      by_cases hlt : i < S.n
      · have hli : (i : Int) < (S.n : Int) := by omega
        obtain ⟨gk1, ck1, cur1, hv1, -, hb1, hx1⟩ := hkr.cell (i := i) (intRow_at (clk_at q hlt))
        rw [intRow_len, clk_len] at hv1
        cases hv1
        obtain ⟨gc2, cc2, cur2, hv2, -, hb2, hx2⟩ := hr.ck.cell (i := i) (ckRow_at S hlt)
        rw [hckl] at hv2
        cases hv2
        have x1 : wr.cell? ⟨gk1, i, none⟩ = some (.int .i64 (q i)) := (cell_blk hb1 _).trans (by simpa using hx1 0 _ rfl)
        have x2 : wr.cell? ⟨gc, i, none⟩ = some (.int .i64 (S.cl i)) := (cell_blk hb2 _).trans (by simpa using hx2 0 _ rfl)
        clear hx1 hx2 hb1 hb2
        by_cases hgt : S.cl i < q i
        · have HN : Hid (¬ Rdy S p num c kind tc tk q) := hide (fun z => by have := z.2.1 i hlt; omega)
          go_wp2_with fail
          go_quiet (fail)
          go_wp2_with fail
          exact bodyPost_ret (v := .bool false) (by simp [results, Tryz.results101, go_sem]) rfl ⟨false, rfl, grown_trans g1 (grown_trans hG (grown_drewN _ _)), by simpa using HN.out⟩
        · go_wp2_with fail
          go_quiet (fail)
          go_wp2_with fail
          go_roundg (S.n - (i + 1))
          case measure => omega
          case rel =>
            refine ⟨i + 1, by go_num, by omega, rfl, grown_trans hG (grown_drewN _ _), hide ?_⟩
            intro j hj
            by_cases e : j = i
            · subst e; omega
            · exact hso.out j (by omega)
      · have HQ : Hid (∀ j, j < S.n → q j ≤ S.cl j) := hide (fun j hj => hso.out j (by omega))
        have HIff : Hid (Rdy S p num c kind tc tk q ↔ (tc = 0 ∨ 0 ≤ findI tc tk S.L 0) ∧ (kind = 1 ∨ findI c ((p : Int) + 1) S.L 0 < 0)) := hide ⟨fun z => z.2.2, fun z => ⟨HNUM.out, HQ.out, z⟩⟩
        by_cases t0 : tc = 0
        · subst t0
          by_cases k1 : kind = 1
          · subst k1
            go_wp2_with fail
            exact bodyPost_ret (v := .bool true) (by simp [results, Tryz.results101, go_sem]) rfl ⟨true, rfl, grown_trans g1 hG, by rw [HIff.out]; simp⟩
          · have hkb : (kind == 1) = false := by simp [k1]
            have HA := hide (ref_at yb S _ vl vw vL log wt c ((p : Int) + 1) wr hr hlen)
            have HD : Hid ((decide (findI c ((p : Int) + 1) S.L 0 < 0) = true ↔ Rdy S p num c kind 0 tk q)) := hide (by rw [HIff.out]; simp [k1])
            generalize findI c ((p : Int) + 1) S.L 0 = fi at HA HD
            clear k1 HIff
            go_wp2_with fail
            refine HA.out.mono ?_
            rintro e w3 ⟨rfl, g3⟩
            go_wp2_with fail
            exact bodyPost_ret (v := .bool (decide (fi < 0))) (by simp [results, Tryz.results101, go_sem]) rfl ⟨(decide (fi < 0)), rfl, grown_trans g1 (grown_trans hG g3), HD.out⟩
        · have htb : (tc == 0) = false := by simp [t0]
          have HA := hide (ref_at yb S _ vl vw vL log wt tc tk wr hr hlen)
          by_cases f1 : findI tc tk S.L 0 < 0
          · have HN : Hid (¬ Rdy S p num c kind tc tk q) := hide (by rw [HIff.out]; intro z; rcases z.1 with z | z <;> omega)
            clear HIff
            generalize findI tc tk S.L 0 = fi at HA f1
            go_wp2_with fail
            refine HA.out.mono ?_
            rintro e w3 ⟨rfl, g3⟩
            go_wp2_with fail
            exact bodyPost_ret (v := .bool false) (by simp [results, Tryz.results101, go_sem]) rfl ⟨false, rfl, grown_trans g1 (grown_trans hG g3), by simpa using HN.out⟩
          · have HIff2 : Hid (Rdy S p num c kind tc tk q ↔ (kind = 1 ∨ findI c ((p : Int) + 1) S.L 0 < 0)) := hide (by rw [HIff.out]; constructor <;> intro z; exact z.2; exact ⟨.inr (by omega), z⟩)
            clear HIff
            generalize findI tc tk S.L 0 = fi at HA f1
            go_wp2_with fail
            refine HA.out.mono ?_
            rintro e w3 ⟨rfl, g3⟩
            have hr3 := hr.grown g3
            have kr3 := (g3.block _ (lt_of_heap kr) (by simp)).trans kr
            have j0 : w3.cell? ⟨bb, 0, none⟩ = some (.int .i64 ((p : Int) + 1)) := cell_blk kr3 0
            have j2 : w3.cell? ⟨bb, 2, none⟩ = some (.int .i64 c) := cell_blk kr3 2
            have j3 : w3.cell? ⟨bb, 3, none⟩ = some (.int .i64 kind) := cell_blk kr3 3
            by_cases k1 : kind = 1
            · subst k1
              go_wp2_with fail
              exact bodyPost_ret (v := .bool true) (by simp [results, Tryz.results101, go_sem]) rfl ⟨true, rfl, grown_trans g1 (grown_trans hG g3), by rw [HIff2.out]; simp⟩
            · have hkb : (kind == 1) = false := by simp [k1]
              have HB := hide (ref_at yb S _ vl vw vL log wt c ((p : Int) + 1) w3 hr3 hlen)
              have HD : Hid ((decide (findI c ((p : Int) + 1) S.L 0 < 0) = true ↔ Rdy S p num c kind tc tk q)) := hide (by rw [HIff2.out]; simp [k1])
              generalize findI c ((p : Int) + 1) S.L 0 = fj at HB HD
              clear k1 HIff2
              go_wp2_with fail
              refine HB.out.mono ?_
              rintro e w4 ⟨rfl, g4⟩
              go_wp2_with fail
              exact bodyPost_ret (v := .bool (decide (fj < 0))) (by simp [results, Tryz.results101, go_sem]) rfl ⟨(decide (fj < 0)), rfl, grown_trans g1 (grown_trans hG (grown_trans g3 g4)), HD.out⟩
  · have hnb : (num != S.cl p + 1) = true := by simp [hnum]
    have HN : Hid (¬ Rdy S p num c kind tc tk q) := hide (fun z => hnum z.1)
    clear hnum
    go_wp2_with fail
    go_quiet (fail)
    go_wp2_with fail
    exact bodyPost_ret (v := .bool false) (by simp [results, Tryz.results101, go_sem]) rfl ⟨false, rfl, grown_trans g1 (grown_drewN _ _), by simpa using HN.out⟩

end Go.Proofs.YtachmkhbbbmioaaGreat

import Derived.Test.YtachmkhbbbmioaaApp
import Derived.Deep.CutBlock
namespace Go.Proofs.Ytachmkhbbbmioaa
open Go.RowKit Go.Shelf

/-- Edit i of the script, as it lies in memory. -/
def EditAt (w : World) (b off i : Nat) (d p r : Int) : Prop :=
  w.cell? ⟨b, off + i * 3, none⟩ = some (.int .i64 d) ∧ w.cell? ⟨b, off + i * 3 + 1, none⟩ = some (.int .i64 p) ∧ w.cell? ⟨b, off + i * 3 + 2, none⟩ = some (.int .i64 r) ∧
  (-9223372036854775808 ≤ d ∧ d ≤ 9223372036854775807) ∧ (-9223372036854775808 ≤ p ∧ p ≤ 9223372036854775807) ∧ (-9223372036854775808 ≤ r ∧ r ≤ 9223372036854775807)

theorem conv_txt {base : Nat} {v : Value} {rs : List Int} {w : World} (h : TxtAt base v rs w) : (convert 30 9 v).run Try.prog w = .ok (.string (runesBytes rs)) w := by
  rcases h.shape with ⟨rfl, rfl⟩ | ⟨-, g, cap, cur, rfl, -, hg, -, -, hc⟩
  · exact run_convert_runes_nil w _ _ 21 0 0 Try.underlying30 Try.underlying21 Try.underlying9
  · have := run_convert_runes (P := Try.prog) w 30 9 21 ⟨g, 0, none⟩ rs.length cap rs (Nat.le_refl _) Try.underlying30 Try.underlying21 Try.underlying9 (fun j hj => by
      have h1 := hc j rs[j] (by simp [hj])
      have h2 : w.cell? ⟨g, j, none⟩ = some (.int .i32 rs[j]) := (cell_blk hg j).trans h1
      cases j with
      | zero => simpa [Addr.add, hj] using h2
      | succ j => simpa [Addr.add, hj] using h2)
    rw [this, List.take_length]

theorem TxtAt.value {base : Nat} {v : Value} {rs : List Int} {w : World} (h : TxtAt base v rs w) : ∃ a c, v = .slice a rs.length c ∧ rs.length ≤ c := by
  rcases h.shape with ⟨rfl, rfl⟩ | ⟨-, g, cap, cur, rfl, -, -, hc, -, -⟩
  · exact ⟨none, 0, rfl, Nat.le_refl _⟩
  · exact ⟨_, _, rfl, hc⟩

theorem addr_add (g j : Nat) : (⟨g, 0, none⟩ : Addr).add j = ⟨g, j, none⟩ := by
  cases j <;> simp [Addr.add]
theorem addr_add2 (g p j : Nat) : ((⟨g, 0, none⟩ : Addr).add p).add j = ⟨g, p + j, none⟩ := by
  rw [addr_add]
  cases j <;> simp [Addr.add]

theorem sizeRune (w : World) : (sizeOf (Try.prog.elem 30)).run Try.prog w = .ok 1 w := by kernel_rfl
theorem elemRune : Try.prog.underlying 30 = some (.slice (Try.prog.elem 30)) := by kernel_rfl

/-- A piece of the text. -/
theorem src_piece {base : Nat} {v : Value} {rs : List Int} {w : World} (h : TxtAt base v rs w) (lo hi : Nat) (h1 : lo ≤ hi) (h2 : hi ≤ rs.length) :
    ∃ a c, v = .slice a rs.length c ∧ rs.length ≤ c ∧ ∀ w', (∀ (g : Nat) (cur : Array Value), w.heap[g]? = some (.cells cur 21) → w'.heap[g]? = some (.cells cur 21)) → SrcIs w' (sliced a lo hi c 1) ((rs.take hi).drop lo) := by
  rcases h.shape with ⟨rfl, rfl⟩ | ⟨-, g, cap, cur, rfl, -, hg, hc, -, hcur⟩
  · refine ⟨none, 0, rfl, Nat.le_refl _, fun w' _ => .inl ⟨?_, by simp⟩⟩
    have e1 : hi = 0 := by simpa using h2
    have e2 : lo = 0 := by omega
    subst e1 e2
    simp [sliced]
  · refine ⟨some ⟨g, 0, none⟩, cap, rfl, hc, fun w' hw => .inr ?_⟩
    have hlen : ((rs.take hi).drop lo).length = hi - lo := by simp; omega
    have hcell : ∀ (j : Nat) (x : Value), (((rs.take hi).drop lo).map (Value.int .i32))[j]? = some x → w'.cell? ⟨g, lo + j, none⟩ = some x := by
      intro j x hj
      simp only [List.getElem?_map, Option.map_eq_some_iff, List.getElem?_drop] at hj
      obtain ⟨y, hy, rfl⟩ := hj
      rw [List.getElem?_take] at hy
      split at hy
      · exact (cell_blk (hw g cur hg) (lo + j)).trans (hcur _ _ hy)
      · cases hy
    by_cases hcl : cap = lo
    · refine ⟨⟨g, 0, none⟩, cap - lo, by simp only [sliced, if_pos hcl, hlen], fun j x hj => ?_⟩
      have : j < 0 := by
        have := (List.getElem?_eq_some_iff.1 hj).1
        simp only [List.length_map, hlen] at this
        omega
      omega
    · refine ⟨(⟨g, 0, none⟩ : Addr).add lo, cap - lo, by simp [sliced, hcl, hlen], fun j x hj => ?_⟩
      rw [addr_add2]; exact hcell j x hj

theorem slice_lo {base : Nat} {v : Value} {rs : List Int} {w : World} (h : TxtAt base v rs w) (p : Nat) (hp : p ≤ rs.length) :
    ∃ u, (∀ w', (Instr.slice 30 v none (some (.int .i64 (p : Int))) none).run Try.prog w' = .ok u w') ∧ ∀ w', (∀ (g : Nat) (cur : Array Value), w.heap[g]? = some (.cells cur 21) → w'.heap[g]? = some (.cells cur 21)) → SrcIs w' u (rs.take p) := by
  obtain ⟨a, c, rfl, hc, hs⟩ := src_piece h 0 p (Nat.zero_le _) hp
  refine ⟨sliced a 0 p c 1, fun w' => ?_, fun w' hw => by simpa using hs w' hw⟩
  rw [run_slice_h w' 30 a rs.length c elemRune .i64 (p : Int) (by omega) (by omega), sizeRune]
  simp [Result.andThen]

theorem slice_hi {base : Nat} {v : Value} {rs : List Int} {w : World} (h : TxtAt base v rs w) (p : Int) (h0 : 0 ≤ p) (hp : p ≤ rs.length) :
    ∃ u, (∀ w', (Instr.slice 30 v (some (.int .i64 p)) none none).run Try.prog w' = .ok u w') ∧ ∀ w', (∀ (g : Nat) (cur : Array Value), w.heap[g]? = some (.cells cur 21) → w'.heap[g]? = some (.cells cur 21)) → SrcIs w' u (rs.drop p.toNat) := by
  obtain ⟨a, c, rfl, hc, hs⟩ := src_piece h p.toNat rs.length (by omega) (Nat.le_refl _)
  refine ⟨sliced a p.toNat rs.length c 1, fun w' => ?_, fun w' hw => by simpa using hs w' hw⟩
  rw [run_slice_l w' 30 a rs.length c elemRune .i64 p h0 hp, sizeRune]
  simp [Result.andThen]

theorem TxtAt.mono {base base' : Nat} {v : Value} {rs : List Int} {w : World} (h : TxtAt base v rs w) (hb : base' ≤ base) : TxtAt base' v rs w := by
  refine ⟨⟨h.own.1, ?_⟩, h.nil⟩
  rcases h.own.2 with h1 | ⟨g, cap, cur, h1, h2, r⟩
  · exact .inl h1
  · exact .inr ⟨g, cap, cur, h1, Nat.le_trans hb h2, r⟩

theorem keepB {B : Nat} {v : Value} {rs : List Int} {w w' : World} (hT : TxtAt B v rs w) (g : w.grownBy w' v.ownBlock) {k : Nat} {o : Obj} (hk : w.heap[k]? = some o) (hlt : k < B) : w'.heap[k]? = some o :=
  (g.block k (lt_of_heap hk) (fun q => by have := (hT.own.lt k q.symm).1; omega)).trans hk

theorem clCells_get {S : CS} {q : Nat} (h : q < S.n) : (clCells S).toArray[q]? = some (.int .i64 (S.cl q)) := by
  simp [clCells, h]

theorem own4_ge {cb sb ma mb B : Nat} (h1 : B ≤ cb) (h2 : B ≤ sb) (h3 : B ≤ ma) (h4 : B ≤ mb) : ∀ x ∈ own4 cb sb ma mb, B ≤ x := by
  intro x hx
  simp only [List.mem_cons, List.not_mem_nil, or_false] at hx
  rcases hx with rfl | rfl | rfl | rfl <;> assumption

theorem CpAt.other {cb sb ma mp lb mb : Nat} {S : CS} {w : World} (h : CpAt cb sb ma mp lb mb S w) {k : Nat} {c : Array Value} {e : TypeId} (hk : w.heap[k]? = some (.cells c e)) (he1 : e ≠ 52) (he2 : e ≠ 59) : k ∉ own4 cb sb ma mb := by
  obtain ⟨E, h1, -⟩ := h.st.ln
  obtain ⟨EA, ⟨ca, ha⟩, -⟩ := h.st.app
  obtain ⟨cbb, hb⟩ := h1.ents
  simp only [List.mem_cons, List.not_mem_nil, or_false]
  rintro (rfl | rfl | rfl | rfl)
  · rw [h.cp] at hk; cases hk; exact he1 rfl
  · rw [h.st.st] at hk; cases hk; exact he2 rfl
  · rw [ha] at hk; cases hk
  · rw [hb] at hk; cases hk

theorem CpAt.grown {cb sb ma mp lb mb : Nat} {S : CS} {w w' : World} (h : CpAt cb sb ma mp lb mb S w) (g : w.grownBy w' none) : CpAt cb sb ma mp lb mb S w' := ⟨blk_grown h.cp g, h.st.grown g⟩
theorem TxtAt.grown {base : Nat} {v : Value} {rs : List Int} {w w' : World} (h : TxtAt base v rs w) (g : w.grownBy w' none) : TxtAt base v rs w' := h.kept (fun _ _ hg => blk_grown hg g)

set_option maxRecDepth 100000 in
set_option maxHeartbeats 4000000 in
theorem typed_any (c : Int) (h1 : -9223372036854775808 ≤ c) (h2 : c ≤ 9223372036854775807) (b off len cap : Nat) (_hlc : len ≤ cap) (_hcap : cap ≤ maxLen) (w : World) (hb : 0 < len → b < w.heap.size) (hs : ∀ i, i < len → ∃ d p r, EditAt w b off i d p r) :
    Calls Try.prog 3 #[.int .i64 c, .slice (some ⟨b, off, none⟩) len cap] w fun e w' => e = .returned (.bool true) ∧ Below w.heap.size w w' := by
  have hp8 := pk_lt c (n := 8) (by omega)
  have hPk := fun w => pick_any c 8 (by omega) (by omega) h1 h2 w
  generalize hq : pk c 8 = q at hp8 hPk
  clear hq
  have eq1 : ((1 + q : Nat) : Int) = 1 + (q : Int) := by omega
  have hN := fun w => cpNew_any (1 + q) (1 + q) (by omega) (by omega) (by omega) w
  simp only [eq1] at hN
  have HN := hide hN
  clear eq1 hN
  unfold maxLen at _hcap
  have hsz0 : Hid (w.heap.size = w.heap.size) := rfl
  go_enter Try.func3, Try.ntmps3
  go_wp2_with (go_at_call 4; refine (hPk _).mono ?_; rintro e w' ⟨rfl, hw⟩; rw [hw]; clear hw w')
  refine (HN.out _).mono ?_
  rintro e w0 ⟨cb, sb, ma, mp, lb, mb, rfl, hC, hg, hb1, hb2, hb3, hb4, hb5, hb6⟩
  have hR := rel_new (n := 1 + q) (by omega) (by omega)
  have hB0 : Below w.heap.size w w0 := ⟨hg.os, hg.tape, hg.output, hg.size, fun k hk => hg.block k hk (by simp)⟩
  clear hPk HN hg
  go_wp2_with fail
  go_loopg [7, 8, 9, 10] 150 (fun g s7 s8 s9 s10 wr => ∃ (i m : Nat) (rs : List Int) (S : CS) (e : Int), s10 = .int .i64 i ∧ i ≤ 150 ∧ i ≤ len ∧ g = 150 - i ∧ s9 = .int .i64 m ∧ s7 = .int .i64 e ∧ TxtAt w.heap.size s8 rs wr ∧ CpAt cb sb ma mp lb mb S wr ∧ Rel S rs m (1 + q) ∧ Below w.heap.size w wr)
  case atStart =>
    exact ⟨0, 0, [], newS (1 + q) (1 + q), 0, rfl, by omega, by omega, rfl, rfl, rfl, ⟨World.ownsRow_nil _ _ _ _, by simp⟩, hC, hR, hB0⟩
  case round =>
    clear hC hR hB0
    obtain ⟨i, m, rs, S, e, rfl, hi150, hil, hgk, rfl, rfl, hT, hC, hR, hB⟩ := hrel
    by_cases hlt : i < len ∧ i < 150
    · obtain ⟨hlt1, hlt2⟩ := hlt
      have hli : (i : Int) < (len : Int) := by omega
      have hl5 : (i : Int) < 150 := by omega
      obtain ⟨d, p, r, hd, hpp, hr, ⟨bd1, bd2⟩, ⟨bp1, bp2⟩, ⟨br1, br2⟩⟩ := hs i hlt1
      have hbw := hb (by omega)
      have e0 : wr.cell? ⟨b, off + i * 3, none⟩ = some (.int .i64 d) := (hB.cell (p := ⟨b, off + i * 3, none⟩) hbw).trans hd
      have e1 : wr.cell? ⟨b, off + i * 3 + 1, none⟩ = some (.int .i64 p) := (hB.cell (p := ⟨b, off + i * 3 + 1, none⟩) hbw).trans hpp
      have e2 : wr.cell? ⟨b, off + i * 3 + 2, none⟩ = some (.int .i64 r) := (hB.cell (p := ⟨b, off + i * 3 + 2, none⟩) hbw).trans hr
      go_upto_block 1 with fail
      go_cut [7, 8, 9] (fun s7 s8 s9 wx => ∃ (m' : Nat) (rs' : List Int) (S' : CS) (e' : Int), s9 = .int .i64 m' ∧ s7 = .int .i64 e' ∧ TxtAt w.heap.size s8 rs' wx ∧ CpAt cb sb ma mp lb mb S' wx ∧ Rel S' rs' m' (1 + q) ∧ Below w.heap.size w wx)
      case first =>
        have hP2 := fun w => pick_any d 2 (by omega) (by omega) bd1 bd2 w
        have hSc := fun w => scalar_any r w
        obtain ⟨a8, c8, rfl, hc8⟩ := hT.value
        have hrl := hR.len
        have hm100 := hR.m100
        by_cases hdrop : pk d 2 = 1
        · have hdr : (((pk d 2 : Nat) : Int) == 1) = true := by rw [hdrop]; rfl
          clear hdrop
          go_upto_block 2 with (first | (go_at_call 4; refine (hP2 _).mono ?_; rintro e w' ⟨rfl, hw⟩; rw [hw]; clear hw w') | (go_at_call 6; refine (hSc _).mono ?_; rintro e w' ⟨rfl, hw⟩; rw [hw]; clear hw w'))
          have g1 : wr.grownBy (wr.alloc (.cells #[.int .i64 d, .int .i64 p, .int .i64 r] 32)) none := grown_alloc (grown_refl _) _
          have k1 : (wr.alloc (.cells #[.int .i64 d, .int .i64 p, .int .i64 r] 32)).heap[wr.heap.size]? = some (.cells #[.int .i64 d, .int .i64 p, .int .i64 r] 32) := by rw [heap_alloc_at]; simp
          generalize (wr.alloc (.cells #[.int .i64 d, .int .i64 p, .int .i64 r] 32)) = w1 at g1 k1 ⊢
          have hC1 := hC.grown g1
          have hT1 := hT.grown g1
          have hB1 : Below w.heap.size w w1 := hB.grown g1 hB.size (by simp)
          have hws : w.heap.size ≤ wr.heap.size := hB.size
          generalize wr.heap.size = b11 at k1 hws ⊢
          clear e0 e1 e2 hP2 hSc hC hT hB g1
          have x0 : w1.cell? ⟨b11, 0, none⟩ = some (.int .i64 d) := cell_blk k1 0
          have x1 : w1.cell? ⟨b11, 1, none⟩ = some (.int .i64 p) := cell_blk k1 1
          have x2 : w1.cell? ⟨b11, 2, none⟩ = some (.int .i64 r) := cell_blk k1 2
          go_cut [13] (fun s13 wx => s13 = .int .i64 (wantD rs m p) ∧ wx = w1)
          case first =>
            by_cases d1 : p < 0
            · have hW : wantD rs m p = 3 := by unfold wantD; rw [if_pos (.inl d1)]
              go_wp2_with fail
              go_meet
              exact ⟨by rw [hW], rfl⟩
            · by_cases d2 : (rs.length : Int) < p
              · have hW : wantD rs m p = 3 := by unfold wantD; rw [if_pos (.inr (by omega))]
                go_wp2_with fail
                go_meet
                exact ⟨by rw [hW], rfl⟩
              · by_cases d3 : p = (rs.length : Int)
                · have hW : wantD rs m p = 3 := by unfold wantD; rw [if_pos (.inr (by omega))]
                  have d3' : (p == (rs.length : Int)) = true := by simp [d3]
                  have D3 := hide d3
                  clear d3
                  go_wp2_with fail
                  go_meet
                  exact ⟨by rw [hW], rfl⟩
                · have d3' : (p == (rs.length : Int)) = false := by simp [d3]
                  by_cases d4 : m = 100
                  · have hW : wantD rs m p = 5 := by unfold wantD; rw [if_neg (by omega), if_pos d4]
                    have d4' : ((m : Int) == 100) = true := by rw [d4]; rfl
                    have D4 := hide d4
                    clear d4
                    go_wp2_with fail
                    go_meet
                    exact ⟨by rw [hW], rfl⟩
                  · have hW : wantD rs m p = 0 := by unfold wantD; rw [if_neg (by omega), if_neg d4]
                    have d4' : ((m : Int) == 100) = false := by simp; omega
                    go_wp2_with fail
                    go_meet
                    exact ⟨by rw [hW], rfl⟩
          case rest =>
          obtain ⟨rfl, hwc⟩ := hcut
          rw [hwc]
          clear hwc wc
          have hD := cpDel cb sb ma mp lb mb S rs m (1 + q) p w1 hC1 hR
          by_cases hW0 : wantD rs m p = 0
          · have hpr : 0 ≤ p ∧ p < rs.length ∧ m < 100 := by
              unfold wantD at hW0
              split at hW0
              · omega
              · split at hW0 <;> omega
            obtain ⟨pn, rfl⟩ := Int.eq_ofNat_of_zero_le hpr.1
            simp only [hW0] at hD ⊢
            clear hW0
            go_upto_region 29 with (go_at_call 7; refine hD.mono ?_; rintro e w2 ⟨rfl, ⟨S2, hC2, hR2⟩, hF2⟩)
            have k2 := hF2.blk k1 (hC1.other k1 (by decide) (by decide))
            have hT2 := hT1.fr hC1 hF2
            have hB2 : Below w.heap.size w w2 := hB1.trans (hF2.toBelow hB1.size (own4_ge hb1 hb2 hb3 hb6))
            clear hD hC1 hF2 k1 hT1 hB1 x0 x1 x2
            have y1 : w2.cell? ⟨b11, 1, none⟩ = some (.int .i64 (pn : Int)) := cell_blk k2 1
            obtain ⟨u1, hs1, hsrc1⟩ := slice_lo hT2 pn (by omega)
            obtain ⟨u2, hs2, hsrc2⟩ := slice_hi hT2 ((pn : Int) + 1) (by omega) (by omega)
            have hTn : TxtAt w.heap.size (.slice none 0 0) [] w2 := ⟨World.ownsRow_nil _ _ _ _, by simp⟩
            have hsa := hsrc1 w2 (fun _ _ hg => hg)
            have hbs := hB2.size
            go_upto_region 30 with (at_builtin; refine wpList_app rfl _ _ rfl w.heap.size (.slice none 0 0) [] rfl hTn u1 (rs.take pn) rfl hsa (by simp; omega) hbs ?_; intro v1 w3 hT3 hg3)
            have kp3 : ∀ {k : Nat} {o : Obj}, w2.heap[k]? = some o → w3.heap[k]? = some o := fun hk => (hg3.block _ (lt_of_heap hk) (by simp [Value.ownBlock])).trans hk
            have y3 : w3.cell? ⟨b11, 1, none⟩ = some (.int .i64 (pn : Int)) := cell_blk (kp3 k2) 1
            have hC3 := hC2.own hTn hg3
            have hsb := hsrc2 w3 (fun _ _ hg => kp3 hg)
            have hB3 : Below w.heap.size w w3 := hB2.grown hg3 hB2.size (by simp [Value.ownBlock])
            have hbs3 := hB3.size
            have e2 : ((pn : Int) + 1).toNat = pn + 1 := by omega
            rw [e2] at hsb
            clear hTn hsa hbs hs1 hsrc1 hsrc2 kp3 hg3 k2 hT2 hB2 hC2 y1
            go_upto_region 34 with (at_builtin; refine wpList_app rfl _ _ rfl w.heap.size v1 ([] ++ rs.take pn) rfl hT3 u2 (rs.drop (pn + 1)) rfl hsb (by simp; omega) hbs3 ?_; intro v5 w5 hT4 hg4)
            have hC5 := hC3.own hT3 hg4
            have hB5 : Below w.heap.size w w5 := hB3.grown hg4 hB3.size (fun k hk => (hT3.own.lt k hk).1)
            have hT5 : TxtAt w.heap.size v5 (delT rs pn) w5 := by simpa [delT] using hT4
            clear hT3 hT4 hg4 hC3 hB3 hsb hs2 y3 hbs3 e2
            obtain ⟨rs5, hrs5⟩ : ∃ rs5, delT rs (pn : Int) = rs5 := ⟨_, rfl⟩
            rw [if_pos trivial, hrs5] at hR2
            rw [hrs5] at hT5
            have em5 : ((m + 1 : Nat) : Int) = (m : Int) + 1 := by omega
            obtain ⟨m5, hm5⟩ : ∃ m5, m + 1 = m5 := ⟨_, rfl⟩
            rw [hm5] at hR2 em5
            rw [← em5]
            have hR5 := hR2
            obtain ⟨S5, hS5⟩ : ∃ S5, S2 = S5 := ⟨_, rfl⟩
            rw [hS5] at hC5 hR5
            clear hR2 hrs5 hm5 em5 hS5 hpr hR
            -- the tail: Text, Len, Clock
            go_wp2_with fail
            refine (cpText cb sb ma mp lb mb S5 rs5 m5 (1 + q) w5 hC5 hR5).mono ?_
            rintro e w6 ⟨rfl, hC6, hF6⟩
            have hT6 := hT5.fr hC5 hF6
            go_wp2_with fail
            refine (cpLen cb sb ma mp lb mb S5 rs5 m5 (1 + q) w6 hC6 hR5).mono ?_
            rintro e w7 ⟨rfl, hC7, hF7⟩
            have hT7 := hT6.fr hC6 hF7
            go_wp2_with fail
            refine (cpClock cb sb ma mp lb mb S5 hR5.good w7 hC7).mono ?_
            rintro e w8 ⟨rfl, hk8, hC8, hF8⟩
            have hT8 := hT7.fr hC7 hF8
            have hB8 : Below w.heap.size w w8 := hB5.trans (((hF6.trans hF7).trans hF8).toBelow hB5.size (own4_ge hb1 hb2 hb3 hb6))
            have hcv := conv_txt hT8
            have hn5 := hR5.en
            have hcl5 : w8.cell? ⟨w7.heap.size, q, none⟩ = some (.int .i64 (m5 : Int)) := by
              rw [cell_blk hk8 q, clCells_get (by rw [hn5]; omega)]
              have := hR5.ecl
              rw [show 1 + q - 1 = q by omega] at this
              rw [this]
            rw [hn5]
            have hq1 : (0 : Int) ≤ 1 + (q : Int) - 1 := by omega
            have hq2 : (1 : Int) + (q : Int) - 1 < ((1 + q : Nat) : Int) := by omega
            have hq3 : ((1 : Int) + (q : Int) - 1).toNat = q := by omega
            obtain ⟨a5, c5, hv5, hc5⟩ := hT8.value
            rw [hv5] at hcv hT8
            have hC8' := hide hC8
            have hR5' := hide hR5
            clear hC5 hC6 hC7 hC8 hF6 hF7 hF8 hT5 hT6 hT7 hk8 hR5 hB5 hn5
            go_wp2_with fail
            go_meet
            exact ⟨m5, rs5, S5, _, rfl, rfl, hT8, hC8'.out, hR5'.out, hB8⟩
          · have hw0 : (wantD rs m p == 0) = false := by simp [hW0]
            simp only [if_neg hW0] at hD
            clear hW0
            obtain ⟨W, hW⟩ : ∃ W, wantD rs m p = W := ⟨_, rfl⟩
            rw [hW] at hD hw0 ⊢
            clear hW
            go_wp2_with (go_at_call 7; refine hD.mono ?_; rintro e w5 ⟨rfl, ⟨S5, hC5, hR5⟩, hF5⟩)
            have hT5 := hT1.fr hC1 hF5
            have hB5 : Below w.heap.size w w5 := hB1.trans (hF5.toBelow hB1.size (own4_ge hb1 hb2 hb3 hb6))
            obtain ⟨v5, hv5⟩ : ∃ v5, Value.slice a8 rs.length c8 = v5 := ⟨_, rfl⟩
            rw [hv5] at hT5 ⊢
            clear hD hC1 hF5 k1 hT1 hB1 x0 x1 x2 hR hv5
            -- the tail: Text, Len, Clock
            go_wp2_with fail
            refine (cpText cb sb ma mp lb mb S5 rs m (1 + q) w5 hC5 hR5).mono ?_
            rintro e w6 ⟨rfl, hC6, hF6⟩
            have hT6 := hT5.fr hC5 hF6
            go_wp2_with fail
            refine (cpLen cb sb ma mp lb mb S5 rs m (1 + q) w6 hC6 hR5).mono ?_
            rintro e w7 ⟨rfl, hC7, hF7⟩
            have hT7 := hT6.fr hC6 hF7
            go_wp2_with fail
            refine (cpClock cb sb ma mp lb mb S5 hR5.good w7 hC7).mono ?_
            rintro e w8 ⟨rfl, hk8, hC8, hF8⟩
            have hT8 := hT7.fr hC7 hF8
            have hB8 : Below w.heap.size w w8 := hB5.trans (((hF6.trans hF7).trans hF8).toBelow hB5.size (own4_ge hb1 hb2 hb3 hb6))
            have hcv := conv_txt hT8
            have hn5 := hR5.en
            have hcl5 : w8.cell? ⟨w7.heap.size, q, none⟩ = some (.int .i64 (m : Int)) := by
              rw [cell_blk hk8 q, clCells_get (by rw [hn5]; omega)]
              have := hR5.ecl
              rw [show 1 + q - 1 = q by omega] at this
              rw [this]
            rw [hn5]
            have hq1 : (0 : Int) ≤ 1 + (q : Int) - 1 := by omega
            have hq2 : (1 : Int) + (q : Int) - 1 < ((1 + q : Nat) : Int) := by omega
            have hq3 : ((1 : Int) + (q : Int) - 1).toNat = q := by omega
            obtain ⟨a5, c5, hv5, hc5⟩ := hT8.value
            rw [hv5] at hcv hT8
            have hC8' := hide hC8
            have hR5' := hide hR5
            clear hC5 hC6 hC7 hC8 hF6 hF7 hF8 hT5 hT6 hT7 hk8 hR5 hB5 hn5
            go_wp2_with fail
            go_meet
            exact ⟨m, rs, S5, _, rfl, rfl, hT8, hC8'.out, hR5'.out, hB8⟩
        · have hdr : (((pk d 2 : Nat) : Int) == 1) = false := by simp; omega
          clear hdrop
          go_upto_block 2 with (first | (go_at_call 4; refine (hP2 _).mono ?_; rintro e w' ⟨rfl, hw⟩; rw [hw]; clear hw w') | (go_at_call 6; refine (hSc _).mono ?_; rintro e w' ⟨rfl, hw⟩; rw [hw]; clear hw w'))
          have g1 : wr.grownBy (wr.alloc (.cells #[.int .i64 d, .int .i64 p, .int .i64 r] 32)) none := grown_alloc (grown_refl _) _
          have k1 : (wr.alloc (.cells #[.int .i64 d, .int .i64 p, .int .i64 r] 32)).heap[wr.heap.size]? = some (.cells #[.int .i64 d, .int .i64 p, .int .i64 r] 32) := by rw [heap_alloc_at]; simp
          generalize (wr.alloc (.cells #[.int .i64 d, .int .i64 p, .int .i64 r] 32)) = w1 at g1 k1 ⊢
          have hC1 := hC.grown g1
          have hT1 := hT.grown g1
          have hB1 : Below w.heap.size w w1 := hB.grown g1 hB.size (by simp)
          have hws : w.heap.size ≤ wr.heap.size := hB.size
          generalize wr.heap.size = b11 at k1 hws ⊢
          clear e0 e1 e2 hP2 hSc hC hT hB g1
          have x0 : w1.cell? ⟨b11, 0, none⟩ = some (.int .i64 d) := cell_blk k1 0
          have x1 : w1.cell? ⟨b11, 1, none⟩ = some (.int .i64 p) := cell_blk k1 1
          have x2 : w1.cell? ⟨b11, 2, none⟩ = some (.int .i64 r) := cell_blk k1 2
          go_cut [13, 14] (fun s13 _ wx => s13 = .int .i64 (wantI rs m p r) ∧ wx = w1)
          case first =>
            by_cases d1 : p < 0
            · have hW : wantI rs m p r = 3 := by unfold wantI; rw [if_pos (.inl d1)]
              go_wp2_with fail
              go_meet
              exact ⟨by rw [hW], rfl⟩
            · by_cases d2 : (rs.length : Int) < p
              · have hW : wantI rs m p r = 3 := by unfold wantI; rw [if_pos (.inr d2)]
                go_wp2_with fail
                go_meet
                exact ⟨by rw [hW], rfl⟩
              · by_cases d3 : Lib.validRune r = false
                · have hW : wantI rs m p r = 4 := by unfold wantI; rw [if_neg (by omega), if_pos d3]
                  go_wp2_with fail
                  go_meet
                  exact ⟨by rw [hW], rfl⟩
                · have d3' : Lib.validRune r = true := by simpa using d3
                  by_cases d4 : m = 100
                  · have hW : wantI rs m p r = 5 := by unfold wantI; rw [if_neg (by omega), if_neg d3, if_pos d4]
                    have d4' : ((m : Int) == 100) = true := by rw [d4]; rfl
                    have D4 := hide d4
                    clear d4 d3
                    go_wp2_with fail
                    go_meet
                    exact ⟨by rw [hW], rfl⟩
                  · have hW : wantI rs m p r = 0 := by unfold wantI; rw [if_neg (by omega), if_neg d3, if_neg d4]
                    have d4' : ((m : Int) == 100) = false := by simp; omega
                    clear d3
                    go_wp2_with fail
                    go_meet
                    exact ⟨by rw [hW], rfl⟩
          case rest =>
          obtain ⟨rfl, hwc⟩ := hcut
          rw [hwc]
          clear hwc wc
          by_cases hrr : 2147483647 < r ∨ r < -2147483648
          · by_cases hr1 : 2147483647 < r
            · go_wp2_with fail
              go_meet
              exact ⟨m, rs, S, _, rfl, rfl, hT1, hC1, hR, hB1⟩
            · have hr2 : r < -2147483648 := by omega
              go_wp2_with fail
              go_meet
              exact ⟨m, rs, S, _, rfl, rfl, hT1, hC1, hR, hB1⟩
          have hr1 : ¬ 2147483647 < r := by omega
          have hr2 : ¬ r < -2147483648 := by omega
          clear hrr
          have hI := cpIns cb sb ma mp lb mb S rs m (1 + q) p r w1 hC1 hR
          by_cases hW0 : wantI rs m p r = 0
          · have hpr : 0 ≤ p ∧ p ≤ rs.length ∧ m < 100 := by
              unfold wantI at hW0
              split at hW0
              · omega
              · split at hW0
                · omega
                · split at hW0 <;> omega
            obtain ⟨pn, rfl⟩ := Int.eq_ofNat_of_zero_le hpr.1
            simp only [hW0] at hI ⊢
            clear hW0
            go_upto_region 29 with (go_at_call 8; refine hI.mono ?_; rintro e w2 ⟨rfl, ⟨S2, hC2, hR2⟩, hF2⟩)
            have k2 := hF2.blk k1 (hC1.other k1 (by decide) (by decide))
            have hT2 := hT1.fr hC1 hF2
            have hB2 : Below w.heap.size w w2 := hB1.trans (hF2.toBelow hB1.size (own4_ge hb1 hb2 hb3 hb6))
            clear hI hC1 hF2 k1 hT1 hB1 x0 x1 x2
            have y1 : w2.cell? ⟨b11, 1, none⟩ = some (.int .i64 (pn : Int)) := cell_blk k2 1
            have hb11 := lt_of_heap k2
            obtain ⟨u1, hs1, hsrc1⟩ := slice_lo hT2 pn (by omega)
            obtain ⟨u2, hs2, hsrc2⟩ := slice_hi hT2 (pn : Int) (by omega) (by omega)
            have hTn : TxtAt w2.heap.size (.slice none 0 0) [] w2 := ⟨World.ownsRow_nil _ _ _ _, by simp⟩
            have hsa := hsrc1 w2 (fun _ _ hg => hg)
            go_upto_region 30 with (at_builtin; refine wpList_app rfl _ _ rfl w2.heap.size (.slice none 0 0) [] rfl hTn u1 (rs.take pn) rfl hsa (by simp; omega) (Nat.le_refl _) ?_; intro v1 w3 hT3 hg3)
            have kp3 : ∀ {k : Nat} {o : Obj}, w2.heap[k]? = some o → w3.heap[k]? = some o := fun hk => (hg3.block _ (lt_of_heap hk) (by simp [Value.ownBlock])).trans hk
            have k3 := kp3 k2
            have y3 : w3.cell? ⟨b11, 2, none⟩ = some (.int .i64 r) := cell_blk k3 2
            have hC3 := hC2.own hTn hg3
            have hB3 : Below w.heap.size w w3 := hB2.grown hg3 hB2.size (by simp [Value.ownBlock])
            have hs23 := hg3.size
            -- the new rune
            have g3a : w3.grownBy (w3.alloc (.cells #[.int .i32 r] 21)) none := grown_alloc (grown_refl _) _
            have hT3a := hT3.grown g3a
            have hC3a := hC3.grown g3a
            have hsr : SrcIs (w3.alloc (.cells #[.int .i32 r] 21)) (.slice (some ⟨w3.heap.size, 0, none⟩) 1 1) [r] := .inr ⟨⟨w3.heap.size, 0, none⟩, 1, rfl, fun j x hj => by
              cases j with
              | zero =>
                simp only [List.map_cons, List.map_nil, List.getElem?_cons_zero, Option.some.injEq] at hj
                subst hj
                rw [addr_add]; exact cell_blk (heap_new' rfl) 0
              | succ j => simp at hj⟩
            have hbs3 : w2.heap.size ≤ (w3.alloc (.cells #[.int .i32 r] 21)).heap.size := by simp; omega
            clear hTn hsa hs1 hsrc1 y1
            go_upto_region 33 with (at_builtin; refine wpList_app rfl _ _ rfl w2.heap.size v1 ([] ++ rs.take pn) rfl hT3a (.slice (some ⟨w3.heap.size, 0, none⟩) 1 1) [r] rfl hsr (by simp; omega) hbs3 ?_; intro v2 w4 hT4 hg4)
            have kp4 : ∀ {k : Nat} {o : Obj}, w2.heap[k]? = some o → w4.heap[k]? = some o := fun hk => keepB hT3a hg4 (blk_grown (kp3 hk) g3a) (lt_of_heap hk)
            have y4 : w4.cell? ⟨b11, 1, none⟩ = some (.int .i64 (pn : Int)) := cell_blk (kp4 k2) 1
            have hC4 := hC3a.own hT3a hg4
            have hB4 : Below w.heap.size w w4 := (hB3.grown g3a hB3.size (by simp)).grown hg4 (by have := hB3.size; simp; omega) (fun k hk => Nat.le_trans hB2.size (hT3a.own.lt k hk).1)
            have hsb := hsrc2 w4 (fun _ _ hg => kp4 hg)
            have hbs4 : w2.heap.size ≤ w4.heap.size := Nat.le_trans hbs3 hg4.size
            simp only [Int.toNat_natCast] at hsb
            have hB2s := hB2.size
            clear hT3 hT3a hC3 hC3a g3a hsr hbs3 hg3 hg4 hsrc2 kp3 kp4 y3 k3 k2 hT2 hC2 hB3
            go_upto_region 34 with (at_builtin; refine wpList_app rfl _ _ rfl w2.heap.size v2 ([] ++ rs.take pn ++ [r]) rfl hT4 u2 (rs.drop pn) rfl hsb (by simp; omega) hbs4 ?_; intro v5 w5 hT4' hg5)
            have hC5 := hC4.own hT4 hg5
            have hB5 : Below w.heap.size w w5 := hB4.grown hg5 hB4.size (fun k hk => Nat.le_trans hB2s (hT4.own.lt k hk).1)
            have hT5 : TxtAt w.heap.size v5 (insT rs pn r) w5 := by have := hT4'.mono hB2s; simpa [insT] using this
            clear hT4 hT4' hg5 hC4 hB4 hsb hs2 y4 hbs4 hB2 hB2s
            obtain ⟨rs5, hrs5⟩ : ∃ rs5, insT rs (pn : Int) r = rs5 := ⟨_, rfl⟩
            rw [if_pos trivial, hrs5] at hR2
            rw [hrs5] at hT5
            have em5 : ((m + 1 : Nat) : Int) = (m : Int) + 1 := by omega
            obtain ⟨m5, hm5⟩ : ∃ m5, m + 1 = m5 := ⟨_, rfl⟩
            rw [hm5] at hR2 em5
            rw [← em5]
            have hR5 := hR2
            obtain ⟨S5, hS5⟩ : ∃ S5, S2 = S5 := ⟨_, rfl⟩
            rw [hS5] at hC5 hR5
            clear hR2 hrs5 hm5 em5 hS5 hpr hR
            -- the tail: Text, Len, Clock
            go_wp2_with fail
            refine (cpText cb sb ma mp lb mb S5 rs5 m5 (1 + q) w5 hC5 hR5).mono ?_
            rintro e w6 ⟨rfl, hC6, hF6⟩
            have hT6 := hT5.fr hC5 hF6
            go_wp2_with fail
            refine (cpLen cb sb ma mp lb mb S5 rs5 m5 (1 + q) w6 hC6 hR5).mono ?_
            rintro e w7 ⟨rfl, hC7, hF7⟩
            have hT7 := hT6.fr hC6 hF7
            go_wp2_with fail
            refine (cpClock cb sb ma mp lb mb S5 hR5.good w7 hC7).mono ?_
            rintro e w8 ⟨rfl, hk8, hC8, hF8⟩
            have hT8 := hT7.fr hC7 hF8
            have hB8 : Below w.heap.size w w8 := hB5.trans (((hF6.trans hF7).trans hF8).toBelow hB5.size (own4_ge hb1 hb2 hb3 hb6))
            have hcv := conv_txt hT8
            have hn5 := hR5.en
            have hcl5 : w8.cell? ⟨w7.heap.size, q, none⟩ = some (.int .i64 (m5 : Int)) := by
              rw [cell_blk hk8 q, clCells_get (by rw [hn5]; omega)]
              have := hR5.ecl
              rw [show 1 + q - 1 = q by omega] at this
              rw [this]
            rw [hn5]
            have hq1 : (0 : Int) ≤ 1 + (q : Int) - 1 := by omega
            have hq2 : (1 : Int) + (q : Int) - 1 < ((1 + q : Nat) : Int) := by omega
            have hq3 : ((1 : Int) + (q : Int) - 1).toNat = q := by omega
            obtain ⟨a5, c5, hv5, hc5⟩ := hT8.value
            rw [hv5] at hcv hT8
            have hC8' := hide hC8
            have hR5' := hide hR5
            clear hC5 hC6 hC7 hC8 hF6 hF7 hF8 hT5 hT6 hT7 hk8 hR5 hB5 hn5
            go_wp2_with fail
            go_meet
            exact ⟨m5, rs5, S5, _, rfl, rfl, hT8, hC8'.out, hR5'.out, hB8⟩
          · have hw0 : (wantI rs m p r == 0) = false := by simp [hW0]
            simp only [if_neg hW0] at hI
            clear hW0
            obtain ⟨W, hW⟩ : ∃ W, wantI rs m p r = W := ⟨_, rfl⟩
            rw [hW] at hI hw0 ⊢
            clear hW
            go_wp2_with (go_at_call 8; refine hI.mono ?_; rintro e w5 ⟨rfl, ⟨S5, hC5, hR5⟩, hF5⟩)
            have hT5 := hT1.fr hC1 hF5
            have hB5 : Below w.heap.size w w5 := hB1.trans (hF5.toBelow hB1.size (own4_ge hb1 hb2 hb3 hb6))
            obtain ⟨v5, hv5⟩ : ∃ v5, Value.slice a8 rs.length c8 = v5 := ⟨_, rfl⟩
            rw [hv5] at hT5 ⊢
            clear hI hC1 hF5 k1 hT1 hB1 x0 x1 x2 hR hv5
            -- the tail: Text, Len, Clock
            go_wp2_with fail
            refine (cpText cb sb ma mp lb mb S5 rs m (1 + q) w5 hC5 hR5).mono ?_
            rintro e w6 ⟨rfl, hC6, hF6⟩
            have hT6 := hT5.fr hC5 hF6
            go_wp2_with fail
            refine (cpLen cb sb ma mp lb mb S5 rs m (1 + q) w6 hC6 hR5).mono ?_
            rintro e w7 ⟨rfl, hC7, hF7⟩
            have hT7 := hT6.fr hC6 hF7
            go_wp2_with fail
            refine (cpClock cb sb ma mp lb mb S5 hR5.good w7 hC7).mono ?_
            rintro e w8 ⟨rfl, hk8, hC8, hF8⟩
            have hT8 := hT7.fr hC7 hF8
            have hB8 : Below w.heap.size w w8 := hB5.trans (((hF6.trans hF7).trans hF8).toBelow hB5.size (own4_ge hb1 hb2 hb3 hb6))
            have hcv := conv_txt hT8
            have hn5 := hR5.en
            have hcl5 : w8.cell? ⟨w7.heap.size, q, none⟩ = some (.int .i64 (m : Int)) := by
              rw [cell_blk hk8 q, clCells_get (by rw [hn5]; omega)]
              have := hR5.ecl
              rw [show 1 + q - 1 = q by omega] at this
              rw [this]
            rw [hn5]
            have hq1 : (0 : Int) ≤ 1 + (q : Int) - 1 := by omega
            have hq2 : (1 : Int) + (q : Int) - 1 < ((1 + q : Nat) : Int) := by omega
            have hq3 : ((1 : Int) + (q : Int) - 1).toNat = q := by omega
            obtain ⟨a5, c5, hv5, hc5⟩ := hT8.value
            rw [hv5] at hcv hT8
            have hC8' := hide hC8
            have hR5' := hide hR5
            clear hC5 hC6 hC7 hC8 hF6 hF7 hF8 hT5 hT6 hT7 hk8 hR5 hB5 hn5
            go_wp2_with fail
            go_meet
            exact ⟨m, rs, S5, _, rfl, rfl, hT8, hC8'.out, hR5'.out, hB8⟩
      case rest =>
        obtain ⟨m', rs', S', e', rfl, rfl, hT', hC', hR', hB'⟩ := hcut
        go_wp2_with fail
        go_roundg (150 - (i + 1))
        case measure => omega
        case rel => exact ⟨i + 1, m', rs', S', e', by go_num, by omega, by omega, rfl, rfl, rfl, hT', hC', hR', hB'⟩
    · have hlt' : ¬ (i : Int) < (len : Int) ∨ ¬ (i : Int) < 150 := by omega
      by_cases hli : (i : Int) < (len : Int)
      · have hl5 : ¬ (i : Int) < 150 := by omega
        go_wp2_with fail
        go_ret
        exact ⟨rfl, hB⟩
      · go_wp2_with fail
        go_ret
        exact ⟨rfl, hB⟩

end Go.Proofs.Ytachmkhbbbmioaa

import Derived.Test.YtachmkhbbbmioaaGreatRows
import Derived.Test.YtachmkhbbbmioaaGreatDGX
import Derived.WalkKit
import Derived.ProofKit
import Derived.OpenShut
import Derived.JoinedCond
import Derived.ChangeOld
import Derived.Below
import Derived.Deep.Strs
namespace Go.Proofs.YtachmkhbbbmioaaGreat
open Go.ChangeShapes Go.WideShapes Go.ChangeAt Go.RowKit

theorem own : ownKnob Tryz.prog.godebug = none := by kernel_rfl
theorem laidOut : laidOutB Tryz.prog = true := by kernel_rfl

theorem wf64 {n : Int} (h : (Lit.int .i64 n).wf = true) : -9223372036854775808 ≤ n ∧ n ≤ 9223372036854775807 := by
  simpa [Lit.wf, IntKind.min, IntKind.max, IntKind.signed, IntKind.bits] using h

theorem lt_cell {w : World} {a : Addr} {v : Value} (h : w.cell? a = some v) : a.block < w.heap.size := by
  by_cases hlt : a.block < w.heap.size
  · exact hlt
  · have hn : w.heap[a.block]? = none := by simp; omega
    simp [World.cell?, hn] at h

/-- One number that lies in a cell. -/
theorem num_cell {H : Type} {enc : TypeId × Value → H} {w : World} {base : Nat} {spare : Nat → Bool} {held : Bool} {n : Nat} {cs : List Value} {y : DataW H × List MemPlace} (j : Nat)
    (h : DataW.trod enc Tryz.prog w base spare held n 3 ((cs.drop j).take 1) = some y) : ∃ m, cs[j]? = some (.int .i64 m) ∧ -9223372036854775808 ≤ m ∧ m ≤ 9223372036854775807 := by
  obtain ⟨m, h1, -, h3⟩ := DataW.trod_int Tryz.underlying3 h
  refine ⟨m, ?_, wf64 h3⟩
  have : ((cs.drop j).take 1)[0]? = some (.int .i64 m) := by rw [h1]; rfl
  simpa using this

/-- One text that lies in a cell. -/
theorem str_cell {H : Type} {enc : TypeId × Value → H} {w : World} {base : Nat} {spare : Nat → Bool} {held : Bool} {n : Nat} {cs : List Value} {y : DataW H × List MemPlace} (j : Nat)
    (h : DataW.trod enc Tryz.prog w base spare held n 9 ((cs.drop j).take 1) = some y) : ∃ s, cs[j]? = some (.string s) := by
  obtain ⟨s, h1, -, -⟩ := DataW.trod_string Tryz.underlying9 h
  refine ⟨s, ?_⟩
  have : ((cs.drop j).take 1)[0]? = some (.string s) := by rw [h1]; rfl
  simpa using this

theorem struct5 {H : Type} {enc : TypeId × Value → H} {P : Program} {w : World} {base : Nat} {spare : Nat → Bool} {held : Bool} {t : TypeId} {f0 f1 f2 f3 f4 : Field} {fuel : Nat} {cs : List Value} {x : DataW H × List MemPlace} (ht : P.underlying t = some (.struct #[f0, f1, f2, f3, f4])) (h : DataW.trod enc P w base spare held fuel t cs = some x) :
    ∃ y0 y1 y2 y3 y4 n, cs.length = P.cellsOf t ∧ DataW.trod enc P w base spare held n f0.type ((cs.drop f0.offset).take (P.cellsOf f0.type)) = some y0 ∧
      DataW.trod enc P w base spare held n f1.type ((cs.drop f1.offset).take (P.cellsOf f1.type)) = some y1 ∧ DataW.trod enc P w base spare held n f2.type ((cs.drop f2.offset).take (P.cellsOf f2.type)) = some y2 ∧
      DataW.trod enc P w base spare held n f3.type ((cs.drop f3.offset).take (P.cellsOf f3.type)) = some y3 ∧ DataW.trod enc P w base spare held n f4.type ((cs.drop f4.offset).take (P.cellsOf f4.type)) = some y4 := by
  obtain ⟨xs, n, _, rfl, hl, hlen, hf⟩ := DataW.trod_struct ht h
  match xs, hlen with
  | [y0, y1, y2, y3, y4], _ => exact ⟨y0, y1, y2, y3, y4, n, hl, by simpa using hf 0 f0 rfl, by simpa using hf 1 f1 rfl, by simpa using hf 2 f2 rfl, by simpa using hf 3 f3 rfl, by simpa using hf 4 f4 rfl⟩

theorem cellsAct : Tryz.prog.cellsOf 72 = 5 := by kernel_rfl
theorem cellsInt : Tryz.prog.cellsOf 3 = 1 := by kernel_rfl
theorem cellsStr : Tryz.prog.cellsOf 9 = 1 := by kernel_rfl

theorem bulk_one {H : Type} (d : DataW H) : 1 ≤ Rows.uptoBulk d := by
  cases d with
  | lit l => cases l <;> simp [Rows.uptoBulk]
  | nil => simp [Rows.uptoBulk]
  | ptr d => simp [Rows.uptoBulk]
  | slice elems spare => simp [Rows.uptoBulk]
  | agg parts => simp [Rows.uptoBulk]
  | iface t d => simp [Rows.uptoBulk]
  | map entries => simp [Rows.uptoBulk]
  | held h => simp [Rows.uptoBulk]

theorem bulk_len {H : Type} (l : List (DataW H)) : l.length ≤ Rows.uptoBulkAll l := by
  induction l with
  | nil => simp [Rows.uptoBulkAll]
  | cons x r ih => have := bulk_one x; simp only [Rows.uptoBulkAll, List.length_cons]; omega

theorem walk {H : Type} {enc : TypeId × Value → H} {base : Nat} {spare : Nat → Bool} {held : Bool} {d : DataW H} {p : List MemPlace} (c : Int) (hc : (Lit.int .i64 c).wf = true) (a : Option Addr) (len cap : Nat) (w : World)
    (h : DataW.Trod enc Tryz.prog w base spare held 22 (.slice a len cap) d p) (hk : Rows.uptoBulk d ≤ 1048576) :
    Calls Tryz.prog 10 #[.int .i64 c, .slice a len cap] w fun e w' => e = .returned (.bool true) ∧ Below w.heap.size w w' := by
  obtain ⟨h1, h2⟩ := wf64 hc
  obtain ⟨fuel, hf⟩ := h
  rcases Go.Deep.open_slice Tryz.underlying22 hf with ⟨hcs, -⟩ | ⟨x, l, cp, m, n, D, Pl, hcs, -, hl, hm, hmm, hd, hx⟩
  · simp [Value.cells] at hcs
    obtain ⟨rfl, rfl, rfl⟩ := hcs
    exact all_all c h1 h2 none 0 0 (by omega) w (fun i hi => by omega)
  · simp [Value.cells] at hcs
    obtain ⟨rfl, rfl, rfl⟩ := hcs
    have hlen : len ≤ 1048576 := by
      have e1 : d = .slice ((List.range len).map D) ((List.range (m - len)).map fun j => D (len + j)) := congrArg Prod.fst hd
      rw [e1] at hk
      simp only [Rows.uptoBulk] at hk
      have := bulk_len ((List.range len).map D)
      simp only [List.length_map, List.length_range] at this
      omega
    have hlm : len ≤ m := by rw [hmm]; split <;> omega
    have cell : ∀ i, i < len → ∃ k C A B s, w.cell? (x.add (i * 5)) = some (.int .i64 k) ∧ w.cell? ((x.add (i * 5)).add 1) = some (.int .i64 C) ∧ w.cell? ((x.add (i * 5)).add 2) = some (.int .i64 A) ∧ w.cell? ((x.add (i * 5)).add 3) = some (.int .i64 B) ∧ w.cell? ((x.add (i * 5)).add 4) = some (.string s) ∧
        (-9223372036854775808 ≤ C ∧ C ≤ 9223372036854775807) ∧ (-9223372036854775808 ≤ A ∧ A ≤ 9223372036854775807) ∧ (-9223372036854775808 ≤ B ∧ B ≤ 9223372036854775807) := by
      intro i hi
      obtain ⟨cs, hc1, hc2⟩ := hx i (by omega)
      rw [cellsAct] at hc1
      obtain ⟨-, hlen5, hcell⟩ := World.cells?_some hc1
      obtain ⟨y0, y1, y2, y3, y4, n', -, t0, t1, t2, t3, t4⟩ := struct5 Tryz.underlying72 hc2
      simp only [cellsInt, cellsStr] at t0 t1 t2 t3 t4
      obtain ⟨k, e0, b0⟩ := num_cell 0 t0
      obtain ⟨C, e1, b1⟩ := num_cell 1 t1
      obtain ⟨A, e2, b2⟩ := num_cell 2 t2
      obtain ⟨B, e3, b3⟩ := num_cell 3 t3
      obtain ⟨s, e4⟩ := str_cell 4 t4
      refine ⟨k, C, A, B, s, ?_, ?_, ?_, ?_, ?_, b1, b2, b3⟩
      · have := hcell 0 (by omega)
        rw [e0] at this
        simpa [Addr.add] using this
      · rw [hcell 1 (by omega), e1]
      · rw [hcell 2 (by omega), e2]
      · rw [hcell 3 (by omega), e3]
      · rw [hcell 4 (by omega), e4]
    obtain ⟨b, off, spot⟩ := x
    refine all_all c h1 h2 (some ⟨b, off, spot⟩) len cap hlen w fun i hi => ?_
    obtain ⟨k, C, A, B, s, d0, d1, d2, d3, d4, bC⟩ := cell i hi
    have hspot : spot = none := by simpa [Addr.add] using World.cell?_spot (cell 0 (by omega)).choose_spec.choose_spec.choose_spec.choose_spec.choose_spec.1
    subst hspot
    have hbw : b < w.heap.size := by simpa [Addr.add] using lt_cell (cell 0 (by omega)).choose_spec.choose_spec.choose_spec.choose_spec.choose_spec.1
    have e : (⟨b, off, none⟩ : Addr).add (i * 5) = ⟨b, off + i * 5, none⟩ := by
      unfold Addr.add
      split
      · simp_all
      · rfl
    rw [e] at d0 d1 d2 d3 d4
    exact ⟨b, off, k, C, A, B, s, rfl, hbw, d0, by simpa [Addr.add] using d1, by simpa [Addr.add] using d2, by simpa [Addr.add] using d3, by simpa [Addr.add] using d4, bC⟩

set_option maxRecDepth 100000 in
theorem lifted (os : Os) (started : os.Started) (H : Type) (enc : TypeId × Value → H) (F : Stop.Interp) :
    ReturnsInHanded {} Tryz.checked os 10 .any ((Rows.OpenSpec.upto Rows.allSpec).pre6 enc Tryz.prog Tryz.f10 Rows.allUptoRow.domain false) (((Rows.OpenSpec.upto Rows.allSpec).at F).post enc Tryz.prog Tryz.f10 false true false false) := by
  refine returnsInHanded_of_cond (C := Tryz.checked) (s := Rows.OpenSpec.upto Rows.allSpec) (k := Rows.uptoSmall) rfl own started (by kernel_rfl) Tryz.func10
    (OpenSpec.witness (enc := enc) (C := Tryz.checked) (s := Rows.OpenSpec.upto Rows.allSpec) (k := Rows.uptoSmall) rfl false ⟨#[], #[.int .i64 0, .slice none 0 0], []⟩ 8 (by kernel_rfl) (by kernel_rfl) (by kernel_rfl)
      (x := ([.lit (.int .i64 0), .nil], [], [])) (by kernel_rfl) rfl (by kernel_rfl)) ?_
  intro W base args ds gs before hval0 hW _ hk _
  have hval : ∀ (j : Nat) t v, Tryz.f10.params[j]? = some t → args[j]? = some v → Value.okWide Tryz.prog W .any base t v := hval0
  have hW' := hW
  obtain ⟨p, q, hA0, hV, rfl, hfz, hnd⟩ := hW
  have hA : DataW.TrodAll enc Tryz.prog W 0 (fun _ => true) true Tryz.f10.params.toList args.toList ds p := hA0
  rw [Tryz.params10] at hA hval
  obtain ⟨v0, vs0, d0, ds0, p0, q0, hargs, rfl, rfl, h0, r0⟩ := trodAll_cons hA
  obtain ⟨v1, vs1, d1, ds1, p1, q1, rfl, rfl, rfl, h1, r1⟩ := trodAll_cons r0
  obtain ⟨rfl, rfl, rfl⟩ := trodAll_nil r1
  obtain rfl : args = #[v0, v1] := by cases args; simp_all
  obtain ⟨rfl, rfl⟩ := trodVars_none hV
  obtain ⟨a0, rfl, rfl, rfl, w0⟩ := open_int Tryz.underlying3 (hval 0 3 v0 rfl rfl) h0
  obtain ⟨a1, len1, cap1, rfl⟩ := okWide_slice Tryz.underlying22 (hval 1 22 v1 rfl rfl)
  have k1 := h1
  have lt1 : ∀ x ∈ p1, x.block < W.heap.size := by obtain ⟨m, hm⟩ := k1; exact DataW.trod_lt m _ _ _ hm
  have hb : Rows.uptoBulk d1 ≤ 1048576 := by
    have h : Rows.uptoBulkAll ([.lit (.int .i64 a0), d1] ++ ([] : List (DataW H))) ≤ 1048576 := of_decide_eq_true hk
    simp only [List.append_nil, Rows.uptoBulkAll, Rows.uptoBulk] at h
    omega
  clear hA0 hval0
  refine (walk a0 w0 a1 len1 cap1 W h1 hb).mono fun e W' ⟨he, bel⟩ => ?_
  subst he
  exact ⟨_, rfl, _, _, _, [], _, [], hW', trodAll_mk1 (shut_bool Tryz.underlying4 _), (trodAll_cons_mk (shut_int Tryz.underlying3 w0) (trodAll_cons_mk (Below.trod laidOut (by kernel_rfl) (of_decide_eq_true (by kernel_rfl)) k1 bel lt1) trodAll_mk0)), rfl, bel.frame _, fun h => by cases h⟩

/-- All, whatever the input of the given bulk. -/
theorem allUpto_holds : Rows.AllUptoSaid :=
  OpenClaim.holds_of_cond 10 Tryz.f10 rfl rfl rfl rfl rfl rfl rfl ⟨rfl, rfl, rfl, rfl, rfl⟩ rfl rfl rfl rfl rfl (by kernel_rfl) Tryz.func10 (by kernel_rfl)
    (of_decide_eq_true (by kernel_rfl)) (by unfold Func.isWrapper; first | (rw [if_pos (by decide +kernel)]; kernel_rfl) | (rw [if_neg (by decide +kernel)]; exact ⟨rfl, rfl⟩))
    (fun os started H enc _ F => lifted os started H enc F)

end Go.Proofs.YtachmkhbbbmioaaGreat

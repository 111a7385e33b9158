import Derived.Test.YtachmkhbbbmioaaGreatRows
import Derived.Test.YtachmkhbbbmioaaGreatWkAX
import Derived.WalkKit
import Derived.ProofKit
import Derived.OpenShut
import Derived.ChangeOld
import Derived.Below
import Derived.Deep.Strs
namespace Go.Proofs.YtachmkhbbbmioaaGreat
open Go.ChangeShapes Go.WideShapes Go.ChangeAt Go.RowKit

theorem own : ownKnob Tryz.prog.godebug = none := by kernel_rfl
theorem laidOut : laidOutB Tryz.prog = true := by kernel_rfl

theorem wf64 {n : Int} (h : (Lit.int .i64 n).wf = true) : -9223372036854775808 ≤ n ∧ n ≤ 9223372036854775807 := by
  simpa [Lit.wf, IntKind.min, IntKind.max, IntKind.signed, IntKind.bits] using h

theorem lt_cell {w : World} {a : Addr} {v : Value} (h : w.cell? a = some v) : a.block < w.heap.size := by
  by_cases hlt : a.block < w.heap.size
  · exact hlt
  · have hn : w.heap[a.block]? = none := by simp; omega
    simp [World.cell?, hn] at h

/-- One number that lies in a cell. -/
theorem num_cell {H : Type} {enc : TypeId × Value → H} {w : World} {base : Nat} {spare : Nat → Bool} {held : Bool} {n : Nat} {cs : List Value} {y : DataW H × List MemPlace} (j : Nat)
    (h : DataW.trod enc Tryz.prog w base spare held n 3 ((cs.drop j).take 1) = some y) : ∃ m, cs[j]? = some (.int .i64 m) ∧ -9223372036854775808 ≤ m ∧ m ≤ 9223372036854775807 := by
  obtain ⟨m, h1, -, h3⟩ := DataW.trod_int Tryz.underlying3 h
  refine ⟨m, ?_, wf64 h3⟩
  have : ((cs.drop j).take 1)[0]? = some (.int .i64 m) := by rw [h1]; rfl
  simpa using this

theorem struct4 {H : Type} {enc : TypeId × Value → H} {P : Program} {w : World} {base : Nat} {spare : Nat → Bool} {held : Bool} {t : TypeId} {f0 f1 f2 f3 : Field} {fuel : Nat} {cs : List Value} {x : DataW H × List MemPlace} (ht : P.underlying t = some (.struct #[f0, f1, f2, f3])) (h : DataW.trod enc P w base spare held fuel t cs = some x) :
    ∃ y0 y1 y2 y3 n, x.1 = .agg [y0.1, y1.1, y2.1, y3.1] ∧ cs.length = P.cellsOf t ∧ DataW.trod enc P w base spare held n f0.type ((cs.drop f0.offset).take (P.cellsOf f0.type)) = some y0 ∧
      DataW.trod enc P w base spare held n f1.type ((cs.drop f1.offset).take (P.cellsOf f1.type)) = some y1 ∧
      DataW.trod enc P w base spare held n f2.type ((cs.drop f2.offset).take (P.cellsOf f2.type)) = some y2 ∧
      DataW.trod enc P w base spare held n f3.type ((cs.drop f3.offset).take (P.cellsOf f3.type)) = some y3 := by
  obtain ⟨xs, n, _, rfl, hl, hlen, hf⟩ := DataW.trod_struct ht h
  match xs, hlen with
  | [y0, y1, y2, y3], _ => exact ⟨y0, y1, y2, y3, n, by simp, hl, by simpa using hf 0 f0 rfl, by simpa using hf 1 f1 rfl, by simpa using hf 2 f2 rfl, by simpa using hf 3 f3 rfl⟩

theorem cellsAct : Tryz.prog.cellsOf 53 = 4 := by kernel_rfl
theorem cellsInt : Tryz.prog.cellsOf 3 = 1 := by kernel_rfl

theorem add_off (b off : Nat) (n : Nat) : (⟨b, off, none⟩ : Addr).add n = ⟨b, off + n, none⟩ := by
  unfold Addr.add
  split
  · simp_all
  · rfl

theorem add_zero' (a : Addr) : a.add 0 = a := by unfold Addr.add; simp

/-- Where a row's first cells are the spot is none. -/
theorem spot_of {w : World} {base : Nat} {b off : Nat} {s : Option Nat} {k : Nat} {cs : List Value} (h : w.cells? base ((⟨b, off, s⟩ : Addr).add (0 * k)) k = some cs) (hk : 0 < k) : s = none := by
  rw [Nat.zero_mul, add_zero'] at h
  obtain ⟨-, hlen, hcell⟩ := World.cells?_some h
  have h0 := hcell 0 hk
  rw [add_zero', List.getElem?_eq_getElem (by omega)] at h0
  exact World.cell?_spot h0

/-- Cells in a row, one by one. -/
theorem cells_at {w : World} {base : Nat} {b off : Nat} {n k : Nat} {cs : List Value} (h : w.cells? base ((⟨b, off, none⟩ : Addr).add n) k = some cs) (hk : 0 < k) : b < w.heap.size ∧ cs.length = k ∧ ∀ j, j < k → w.cell? ⟨b, off + n + j, none⟩ = cs[j]? := by
  obtain ⟨-, hlen, hcell⟩ := World.cells?_some h
  rw [add_off] at hcell
  have h0 := hcell 0 hk
  rw [List.getElem?_eq_getElem (by omega), add_off] at h0
  exact ⟨lt_cell h0, hlen, fun j hj => by rw [← hcell j hj, add_off]⟩

theorem walk {H : Type} {enc : TypeId × Value → H} {base : Nat} {spare : Nat → Bool} {held : Bool} {d : DataW H} {pl : List MemPlace} (c : Int) (hc : (Lit.int .i64 c).wf = true) (a : Option Addr) (len cap : Nat) (w : World)
    (h : DataW.Trod enc Tryz.prog w base spare held 48 (.slice a len cap) d pl) :
    Calls Tryz.prog 8 #[.int .i64 c, .slice a len cap] w fun e w' => e = .returned (.bool true) ∧ Below w.heap.size w w' := by
  obtain ⟨h1, h2⟩ := wf64 hc
  have A1 : len ≤ 9223372036854775807 ∧ ∀ i, i < len → ∃ b off k C A B, a = some ⟨b, off, none⟩ ∧ b < w.heap.size ∧ ActK w b off i k C A B := by
    obtain ⟨fuel, hf⟩ := h
    rcases Go.Deep.open_slice Tryz.underlying48 hf with ⟨hcs, -⟩ | ⟨x, l, cp, m, n, D, Pl, hcs, -, hl, hm, hmm, hd, hx⟩
    · simp [Value.cells] at hcs
      obtain ⟨rfl, rfl, rfl⟩ := hcs
      exact ⟨by omega, fun i hi => by omega⟩
    · simp [Value.cells] at hcs
      obtain ⟨rfl, rfl, rfl⟩ := hcs
      have hlm : len ≤ m := by rw [hmm]; split <;> omega
      refine ⟨by unfold maxLen at hm; omega, fun i hi => ?_⟩
      obtain ⟨b, off, s⟩ := x
      obtain rfl : s = none := by
        obtain ⟨cs', h1, -⟩ := hx 0 (by omega)
        exact spot_of h1 (by rw [cellsAct]; omega)
      obtain ⟨cs', h1, h2⟩ := hx i (by omega)
      rw [cellsAct] at h1
      obtain ⟨e2, e3, e4⟩ := cells_at h1 (by omega)
      obtain ⟨y0, y1, y2, y3, n', -, -, t0, t1, t2, t3⟩ := struct4 Tryz.underlying53 h2
      simp only [cellsInt] at t0 t1 t2 t3
      obtain ⟨v0, c0, r0⟩ := num_cell 0 t0
      obtain ⟨v1, c1, r1⟩ := num_cell 1 t1
      obtain ⟨v2, c2, r2⟩ := num_cell 2 t2
      obtain ⟨v3, c3, r3⟩ := num_cell 3 t3
      have at' : ∀ (k : Nat) (v : Value), k < 4 → cs'[k]? = some v → w.cell? ⟨b, off + i * 4 + k, none⟩ = some v := fun k v hk hv => (e4 k hk).trans hv
      exact ⟨b, off, v0, v1, v2, v3, rfl, e2, at' 0 _ (by omega) c0, at' 1 _ (by omega) c1, at' 2 _ (by omega) c2, at' 3 _ (by omega) c3, r0, r1, r2, r3⟩
  obtain ⟨hlen, hs⟩ := A1
  exact converged_k c h1 h2 a len cap hlen w hs

set_option maxRecDepth 100000 in
theorem lifted (os : Os) (started : os.Started) (H : Type) (enc : TypeId × Value → H) :
    ReturnsInHanded {} Tryz.checked os 8 .any (Rows.convergedSpec.pre6 enc Tryz.prog Tryz.f8 Rows.convergedRow.domain false) (Rows.convergedSpec.post enc Tryz.prog Tryz.f8 false true false false) := by
  refine returnsInHanded_of_change (C := Tryz.checked) own started (by kernel_rfl) Tryz.func8
    (ChangeSpec.witness6 (enc := enc) (C := Tryz.checked) false ⟨#[], #[.int .i64 0, .slice none 0 0], []⟩ 8 (by kernel_rfl) (by kernel_rfl) (by kernel_rfl) (by kernel_rfl)) ?_
  intro W base args ds gs before hval0 hW hcnd _
  have hval : ∀ (j : Nat) t v, Tryz.f8.params[j]? = some t → args[j]? = some v → Value.okWide Tryz.prog W .any base t v := hval0
  have hW' := hW
  obtain ⟨p, q, hA0, hV, rfl, hfz, hnd⟩ := hW
  have hA : DataW.TrodAll enc Tryz.prog W 0 (fun _ => true) true Tryz.f8.params.toList args.toList ds p := hA0
  rw [Tryz.params8] at hA hval
  obtain ⟨v0, vs0, d0, ds0, p0, q0, hargs, rfl, rfl, h0, r0⟩ := trodAll_cons hA
  obtain ⟨v1, vs1, d1, ds1, p1, q1, rfl, rfl, rfl, h1, r1⟩ := trodAll_cons r0
  obtain ⟨rfl, rfl, rfl⟩ := trodAll_nil r1
  obtain rfl : args = #[v0, v1] := by cases args; simp_all
  obtain ⟨rfl, rfl⟩ := trodVars_none hV
  obtain ⟨a0, rfl, rfl, rfl, w0⟩ := open_int Tryz.underlying3 (hval 0 3 v0 rfl rfl) h0
  obtain ⟨a1, len1, cap1, rfl⟩ := okWide_slice Tryz.underlying48 (hval 1 48 v1 rfl rfl)
  have k1 := h1
  have lt1 : ∀ x ∈ p1, x.block < W.heap.size := by obtain ⟨m, hm⟩ := k1; exact DataW.trod_lt m _ _ _ hm
  clear hA0 hval0
  refine (walk a0 w0 a1 len1 cap1 W h1).mono fun e W' ⟨he, bel⟩ => ?_
  subst he
  exact ⟨_, rfl, _, _, _, [], _, [], hW', trodAll_mk1 (shut_bool Tryz.underlying4 _), (trodAll_cons_mk (shut_int Tryz.underlying3 w0) (trodAll_cons_mk (Below.trod laidOut (by kernel_rfl) (of_decide_eq_true (by kernel_rfl)) k1 bel lt1) trodAll_mk0)), rfl, bel.frame _, fun h => by cases h⟩

/-- Converged, whatever the input. -/
theorem converged_holds : Rows.ConvergedSaid :=
  OpenClaim.holds_of_wide 8 Tryz.f8 rfl rfl rfl rfl rfl rfl rfl ⟨rfl, rfl, rfl, rfl, rfl⟩ rfl rfl rfl rfl rfl (by kernel_rfl) Tryz.func8 (by kernel_rfl)
    (of_decide_eq_true (by kernel_rfl)) (by unfold Func.isWrapper; first | (rw [if_pos (by decide +kernel)]; kernel_rfl) | (rw [if_neg (by decide +kernel)]; exact ⟨rfl, rfl⟩))
    (fun os started H enc _ => lifted os started H enc)

end Go.Proofs.YtachmkhbbbmioaaGreat

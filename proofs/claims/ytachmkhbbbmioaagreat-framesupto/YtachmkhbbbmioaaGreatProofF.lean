import Derived.Test.YtachmkhbbbmioaaGreatRows
import Derived.Test.YtachmkhbbbmioaaGreatFmCX
import Derived.WalkKit
import Derived.ProofKit
import Derived.OpenShut
import Derived.JoinedCond
import Derived.ChangeOld
import Derived.Below
import Derived.Deep.Strs
namespace Go.Proofs.YtachmkhbbbmioaaGreat
open Go.ChangeShapes Go.WideShapes Go.ChangeAt Go.RowKit

theorem own : ownKnob Tryz.prog.godebug = none := by kernel_rfl
theorem laidOut : laidOutB Tryz.prog = true := by kernel_rfl

theorem wf64 {n : Int} (h : (Lit.int .i64 n).wf = true) : -9223372036854775808 ≤ n ∧ n ≤ 9223372036854775807 := by
  simpa [Lit.wf, IntKind.min, IntKind.max, IntKind.signed, IntKind.bits] using h

theorem lt_cell {w : World} {a : Addr} {v : Value} (h : w.cell? a = some v) : a.block < w.heap.size := by
  by_cases hlt : a.block < w.heap.size
  · exact hlt
  · have hn : w.heap[a.block]? = none := by simp; omega
    simp [World.cell?, hn] at h

/-- One number that lies in a cell. -/
theorem num_cell {H : Type} {enc : TypeId × Value → H} {w : World} {base : Nat} {spare : Nat → Bool} {held : Bool} {n : Nat} {cs : List Value} {y : DataW H × List MemPlace} (j : Nat)
    (h : DataW.trod enc Tryz.prog w base spare held n 3 ((cs.drop j).take 1) = some y) : ∃ m, cs[j]? = some (.int .i64 m) ∧ -9223372036854775808 ≤ m ∧ m ≤ 9223372036854775807 := by
  obtain ⟨m, h1, -, h3⟩ := DataW.trod_int Tryz.underlying3 h
  refine ⟨m, ?_, wf64 h3⟩
  have : ((cs.drop j).take 1)[0]? = some (.int .i64 m) := by rw [h1]; rfl
  simpa using this

/-- One text that lies in a cell. -/
theorem str_cell {H : Type} {enc : TypeId × Value → H} {w : World} {base : Nat} {spare : Nat → Bool} {held : Bool} {n : Nat} {cs : List Value} {y : DataW H × List MemPlace} (j : Nat)
    (h : DataW.trod enc Tryz.prog w base spare held n 9 ((cs.drop j).take 1) = some y) : ∃ s, cs[j]? = some (.string s) := by
  obtain ⟨s, h1, -, -⟩ := DataW.trod_string Tryz.underlying9 h
  refine ⟨s, ?_⟩
  have : ((cs.drop j).take 1)[0]? = some (.string s) := by rw [h1]; rfl
  simpa using this

theorem struct2 {H : Type} {enc : TypeId × Value → H} {P : Program} {w : World} {base : Nat} {spare : Nat → Bool} {held : Bool} {t : TypeId} {f0 f1 : Field} {fuel : Nat} {cs : List Value} {x : DataW H × List MemPlace} (ht : P.underlying t = some (.struct #[f0, f1])) (h : DataW.trod enc P w base spare held fuel t cs = some x) :
    ∃ y0 y1 n, x.1 = .agg [y0.1, y1.1] ∧ cs.length = P.cellsOf t ∧ DataW.trod enc P w base spare held n f0.type ((cs.drop f0.offset).take (P.cellsOf f0.type)) = some y0 ∧
      DataW.trod enc P w base spare held n f1.type ((cs.drop f1.offset).take (P.cellsOf f1.type)) = some y1 := by
  obtain ⟨xs, n, _, rfl, hl, hlen, hf⟩ := DataW.trod_struct ht h
  match xs, hlen with
  | [y0, y1], _ => exact ⟨y0, y1, n, by simp, hl, by simpa using hf 0 f0 rfl, by simpa using hf 1 f1 rfl⟩

theorem struct4 {H : Type} {enc : TypeId × Value → H} {P : Program} {w : World} {base : Nat} {spare : Nat → Bool} {held : Bool} {t : TypeId} {f0 f1 f2 f3 : Field} {fuel : Nat} {cs : List Value} {x : DataW H × List MemPlace} (ht : P.underlying t = some (.struct #[f0, f1, f2, f3])) (h : DataW.trod enc P w base spare held fuel t cs = some x) :
    ∃ y0 y1 y2 y3 n, x.1 = .agg [y0.1, y1.1, y2.1, y3.1] ∧ cs.length = P.cellsOf t ∧ DataW.trod enc P w base spare held n f0.type ((cs.drop f0.offset).take (P.cellsOf f0.type)) = some y0 ∧
      DataW.trod enc P w base spare held n f1.type ((cs.drop f1.offset).take (P.cellsOf f1.type)) = some y1 ∧
      DataW.trod enc P w base spare held n f2.type ((cs.drop f2.offset).take (P.cellsOf f2.type)) = some y2 ∧
      DataW.trod enc P w base spare held n f3.type ((cs.drop f3.offset).take (P.cellsOf f3.type)) = some y3 := by
  obtain ⟨xs, n, _, rfl, hl, hlen, hf⟩ := DataW.trod_struct ht h
  match xs, hlen with
  | [y0, y1, y2, y3], _ => exact ⟨y0, y1, y2, y3, n, by simp, hl, by simpa using hf 0 f0 rfl, by simpa using hf 1 f1 rfl, by simpa using hf 2 f2 rfl, by simpa using hf 3 f3 rfl⟩

theorem struct7 {H : Type} {enc : TypeId × Value → H} {P : Program} {w : World} {base : Nat} {spare : Nat → Bool} {held : Bool} {t : TypeId} {f0 f1 f2 f3 f4 f5 f6 : Field} {fuel : Nat} {cs : List Value} {x : DataW H × List MemPlace} (ht : P.underlying t = some (.struct #[f0, f1, f2, f3, f4, f5, f6])) (h : DataW.trod enc P w base spare held fuel t cs = some x) :
    ∃ y0 y1 y2 y3 y4 y5 y6 n, x.1 = .agg [y0.1, y1.1, y2.1, y3.1, y4.1, y5.1, y6.1] ∧ cs.length = P.cellsOf t ∧ DataW.trod enc P w base spare held n f0.type ((cs.drop f0.offset).take (P.cellsOf f0.type)) = some y0 ∧
      DataW.trod enc P w base spare held n f1.type ((cs.drop f1.offset).take (P.cellsOf f1.type)) = some y1 ∧
      DataW.trod enc P w base spare held n f2.type ((cs.drop f2.offset).take (P.cellsOf f2.type)) = some y2 ∧
      DataW.trod enc P w base spare held n f3.type ((cs.drop f3.offset).take (P.cellsOf f3.type)) = some y3 ∧
      DataW.trod enc P w base spare held n f4.type ((cs.drop f4.offset).take (P.cellsOf f4.type)) = some y4 ∧
      DataW.trod enc P w base spare held n f5.type ((cs.drop f5.offset).take (P.cellsOf f5.type)) = some y5 ∧
      DataW.trod enc P w base spare held n f6.type ((cs.drop f6.offset).take (P.cellsOf f6.type)) = some y6 := by
  obtain ⟨xs, n, _, rfl, hl, hlen, hf⟩ := DataW.trod_struct ht h
  match xs, hlen with
  | [y0, y1, y2, y3, y4, y5, y6], _ => exact ⟨y0, y1, y2, y3, y4, y5, y6, n, by simp, hl, by simpa using hf 0 f0 rfl, by simpa using hf 1 f1 rfl, by simpa using hf 2 f2 rfl, by simpa using hf 3 f3 rfl, by simpa using hf 4 f4 rfl, by simpa using hf 5 f5 rfl, by simpa using hf 6 f6 rfl⟩

theorem cellsRaw : Tryz.prog.cellsOf 43 = 4 := by kernel_rfl
theorem cellsOp : Tryz.prog.cellsOf 88 = 8 := by kernel_rfl
theorem cellsMark : Tryz.prog.cellsOf 86 = 2 := by kernel_rfl
theorem cellsInts : Tryz.prog.cellsOf 40 = 1 := by kernel_rfl
theorem cellsOps : Tryz.prog.cellsOf 41 = 1 := by kernel_rfl
theorem cellsInt : Tryz.prog.cellsOf 3 = 1 := by kernel_rfl
theorem cellsStr : Tryz.prog.cellsOf 9 = 1 := by kernel_rfl

theorem bulk_one {H : Type} (d : DataW H) : 1 ≤ Rows.uptoBulk d := by
  cases d with
  | lit l => cases l <;> simp [Rows.uptoBulk]
  | nil => simp [Rows.uptoBulk]
  | ptr d => simp [Rows.uptoBulk]
  | slice elems spare => simp [Rows.uptoBulk]
  | agg parts => simp [Rows.uptoBulk]
  | iface t d => simp [Rows.uptoBulk]
  | map entries => simp [Rows.uptoBulk]
  | held h => simp [Rows.uptoBulk]

theorem bulk_len {H : Type} (l : List (DataW H)) : l.length ≤ Rows.uptoBulkAll l := by
  induction l with
  | nil => simp [Rows.uptoBulkAll]
  | cons x r ih => have := bulk_one x; simp only [Rows.uptoBulkAll, List.length_cons]; omega

theorem add_off (b off : Nat) (n : Nat) : (⟨b, off, none⟩ : Addr).add n = ⟨b, off + n, none⟩ := by
  unfold Addr.add
  split
  · simp_all
  · rfl

theorem add_zero' (a : Addr) : a.add 0 = a := by unfold Addr.add; simp

/-- Where a row's first cells are the spot is none. -/
theorem spot_of {w : World} {base : Nat} {b off : Nat} {s : Option Nat} {k : Nat} {cs : List Value} (h : w.cells? base ((⟨b, off, s⟩ : Addr).add (0 * k)) k = some cs) (hk : 0 < k) : s = none := by
  rw [Nat.zero_mul, add_zero'] at h
  obtain ⟨-, hlen, hcell⟩ := World.cells?_some h
  have h0 := hcell 0 hk
  rw [add_zero', List.getElem?_eq_getElem (by omega)] at h0
  exact World.cell?_spot h0

/-- Cells in a row, one by one. -/
theorem cells_at {w : World} {base : Nat} {b off : Nat} {n k : Nat} {cs : List Value} (h : w.cells? base ((⟨b, off, none⟩ : Addr).add n) k = some cs) (hk : 0 < k) : b < w.heap.size ∧ cs.length = k ∧ ∀ j, j < k → w.cell? ⟨b, off + n + j, none⟩ = cs[j]? := by
  obtain ⟨-, hlen, hcell⟩ := World.cells?_some h
  rw [add_off] at hcell
  have h0 := hcell 0 hk
  rw [List.getElem?_eq_getElem (by omega), add_off] at h0
  exact ⟨lt_cell h0, hlen, fun j hj => by rw [← hcell j hj, add_off]⟩

/-- A list of numbers that is handed in. -/
theorem ints_in {H : Type} {enc : TypeId × Value → H} {w : World} {base : Nat} {spare : Nat → Bool} {held : Bool} {n : Nat} {cs : List Value} {y : DataW H × List MemPlace} (j : Nat)
    (h : DataW.trod enc Tryz.prog w base spare held n 40 ((cs.drop j).take 1) = some y) : ∃ a len cap xs, cs[j]? = some (.slice a len cap) ∧ IntsIn w a len xs := by
  have top : ∀ v, (cs.drop j).take 1 = [v] → cs[j]? = some v := fun v h1 => by
    have : ((cs.drop j).take 1)[0]? = some v := by rw [h1]; rfl
    simpa using this
  rcases Go.Deep.open_slice Tryz.underlying40 h with ⟨hcs, -⟩ | ⟨x, l, cp, m, n, D, Pl, hcs, -, hl, hm, hmm, hd, hx⟩
  · exact ⟨none, 0, 0, fun _ => 0, top _ hcs, ⟨fun i hi => by omega⟩⟩
  · have hlm : l ≤ m := by rw [hmm]; split <;> omega
    by_cases hl0 : l = 0
    · exact ⟨_, l, cp, fun _ => 0, top _ hcs, ⟨fun i hi => by omega⟩⟩
    obtain ⟨b, off, s⟩ := x
    obtain rfl : s = none := by
      obtain ⟨cs', h1, -⟩ := hx 0 (by omega)
      exact spot_of h1 (by rw [cellsInt]; omega)
    have cell : ∀ i, i < l → ∃ v : Int, b < w.heap.size ∧ w.cell? ⟨b, off + i, none⟩ = some (.int .i64 v) ∧ -9223372036854775808 ≤ v ∧ v ≤ 9223372036854775807 := fun i hi => by
      obtain ⟨cs', h1, h2⟩ := hx i (by omega)
      rw [cellsInt] at h1
      obtain ⟨e2, e3, e4⟩ := cells_at h1 (by omega)
      have h2' : DataW.trod enc Tryz.prog w base spare held n 3 ((cs'.drop 0).take 1) = some (D i, Pl i) := by rw [List.drop_zero, List.take_of_length_le (by omega)]; exact h2
      obtain ⟨v, q1, q2⟩ := num_cell 0 h2'
      refine ⟨v, e2, ?_, q2⟩
      rw [← q1, ← e4 0 (by omega)]
      congr 2
      omega
    refine ⟨_, l, cp, fun i => if h : i < l then (cell i h).choose else 0, top _ hcs, ⟨fun i hi => ?_⟩⟩
    obtain ⟨e2, e3, e4⟩ := (cell i hi).choose_spec
    refine ⟨b, off, rfl, e2, ?_, ?_⟩
    · simp only [dif_pos hi]; exact e3
    · simp only [dif_pos hi]; exact e4

theorem bulk_ge {H : Type} (k : Nat) (l : List (DataW H)) (h : ∀ x ∈ l, k ≤ Rows.uptoBulk x) : k * l.length ≤ Rows.uptoBulkAll l := by
  induction l with
  | nil => simp
  | cons x r ih =>
    have h1 := h x (by simp)
    have h2 := ih (fun y hy => h y (by simp [hy]))
    simp only [Rows.uptoBulkAll, List.length_cons]
    rw [Nat.mul_add]
    omega

/-- A list of operations of raw numbers that is handed in. -/
theorem ops_in {H : Type} {enc : TypeId × Value → H} {w : World} {base : Nat} {spare : Nat → Bool} {held : Bool} {n : Nat} {cs : List Value} {y : DataW H × List MemPlace} (j : Nat)
    (h : DataW.trod enc Tryz.prog w base spare held n 41 ((cs.drop j).take 1) = some y) (hk : Rows.uptoBulk y.1 ≤ 1048576) : ∃ a len cap, cs[j]? = some (.slice a len cap) ∧ len ≤ 200000 ∧ OpsIn w a len := by
  have top : ∀ v, (cs.drop j).take 1 = [v] → cs[j]? = some v := fun v h1 => by
    have : ((cs.drop j).take 1)[0]? = some v := by rw [h1]; rfl
    simpa using this
  rcases Go.Deep.open_slice Tryz.underlying41 h with ⟨hcs, -⟩ | ⟨x, l, cp, m, n, D, Pl, hcs, -, hl, hm, hmm, hd, hx⟩
  · exact ⟨none, 0, 0, top _ hcs, by omega, fun i hi => by omega⟩
  · have hlm : l ≤ m := by rw [hmm]; split <;> omega
    by_cases hl0 : l = 0
    · exact ⟨_, l, cp, top _ hcs, by omega, fun i hi => by omega⟩
    obtain ⟨b, off, s⟩ := x
    obtain rfl : s = none := by
      obtain ⟨cs', h1, -⟩ := hx 0 (by omega)
      exact spot_of h1 (by rw [cellsOp]; omega)
    have opn : ∀ i, i < m → b < w.heap.size ∧ OpIn w b (off + i * 8) ∧ 8 ≤ Rows.uptoBulk (D i) := fun i hi => by
      obtain ⟨cs', h1, h2⟩ := hx i hi
      rw [cellsOp] at h1
      obtain ⟨e2, e3, e4⟩ := cells_at h1 (by omega)
      obtain ⟨y0, y1, y2, y3, y4, y5, y6, n', hag, -, t0, t1, t2, t3, t4, t5, t6⟩ := struct7 Tryz.underlying88 h2
      simp only [cellsInt, cellsMark, cellsInts] at t0 t1 t2 t3 t4 t5 t6
      obtain ⟨z0, z1, n'', -, -, u0, u1⟩ := struct2 Tryz.underlying86 t4
      simp only [cellsInt] at u0 u1
      obtain ⟨v0, c0, r0⟩ := num_cell 0 t0
      obtain ⟨v1, c1, r1⟩ := num_cell 1 t1
      obtain ⟨v2, c2, r2⟩ := num_cell 2 t2
      obtain ⟨v3, c3, r3⟩ := num_cell 3 t3
      obtain ⟨v4, c4, r4⟩ := num_cell 0 u0
      obtain ⟨v5, c5, r5⟩ := num_cell 1 u1
      obtain ⟨v6, c6, r6⟩ := num_cell 6 t5
      obtain ⟨va, vn, vp, xs, c7, hI⟩ := ints_in 7 t6
      have c4' : cs'[4]? = some (.int .i64 v4) := by simpa using c4
      have c5' : cs'[5]? = some (.int .i64 v5) := by simpa using c5
      have at' : ∀ (k : Nat) (v : Value), k < 8 → cs'[k]? = some v → w.cell? ⟨b, off + i * 8 + k, none⟩ = some v := fun k v hk hv => (e4 k hk).trans hv
      refine ⟨e2, ⟨⟨v0, v1, v2, v3, v4, v5, v6, fun _ => 0⟩, va, vn, vp, xs, at' 0 _ (by omega) c0, at' 1 _ (by omega) c1, at' 2 _ (by omega) c2, at' 3 _ (by omega) c3, at' 4 _ (by omega) c4', at' 5 _ (by omega) c5', at' 6 _ (by omega) c6, at' 7 _ (by omega) c7, hI, r0.2, r1.2, r2.2, r3.2, r4.2, r5.2, r6.2⟩, ?_⟩
      have hag' : D i = .agg [y0.1, y1.1, y2.1, y3.1, y4.1, y5.1, y6.1] := hag
      rw [hag']
      have b0 := bulk_len [y0.1, y1.1, y2.1, y3.1, y4.1, y5.1, y6.1]
      simp only [Rows.uptoBulk, List.length_cons, List.length_nil] at b0 ⊢
      omega
    refine ⟨_, l, cp, top _ hcs, ?_, fun i hi => ?_⟩
    · have e1 : y.1 = .slice ((List.range l).map D) ((List.range (m - l)).map fun j => D (l + j)) := congrArg Prod.fst hd
      rw [e1] at hk
      simp only [Rows.uptoBulk] at hk
      have := bulk_ge 8 ((List.range l).map D) (fun x hx => by
        simp only [List.mem_map, List.mem_range] at hx
        obtain ⟨i, hi, rfl⟩ := hx
        exact (opn i (by omega)).2.2)
      simp only [List.length_map, List.length_range] at this
      omega
    · obtain ⟨e2, e3, -⟩ := opn i (by omega)
      exact ⟨b, off, rfl, e2, e3⟩

theorem bulk_mem {H : Type} {x : DataW H} {l : List (DataW H)} (h : x ∈ l) : Rows.uptoBulk x ≤ Rows.uptoBulkAll l := by
  induction l with
  | nil => cases h
  | cons y r ih =>
    simp only [Rows.uptoBulkAll]
    rcases List.mem_cons.1 h with rfl | h
    · omega
    · have := ih h; omega

theorem walk {H : Type} {enc : TypeId × Value → H} {base : Nat} {spare : Nat → Bool} {held : Bool} {d d2 : DataW H} {p p2 : List MemPlace} (c : Int) (hc : (Lit.int .i64 c).wf = true) (a : Option Addr) (len cap : Nat) (a2 : Option Addr) (len2 cap2 : Nat) (w : World)
    (h : DataW.Trod enc Tryz.prog w base spare held 25 (.slice a len cap) d p) (h' : DataW.Trod enc Tryz.prog w base spare held 26 (.slice a2 len2 cap2) d2 p2) (hk : Rows.uptoBulk d + Rows.uptoBulk d2 ≤ 1048576) :
    Calls Tryz.prog 5 #[.int .i64 c, .slice a len cap, .slice a2 len2 cap2] w fun e w' => e = .returned (.bool true) ∧ Below w.heap.size w w' := by
  obtain ⟨h1, h2⟩ := wf64 hc
  have A1 : len ≤ Rows.uptoBulk d ∧ ∀ i, i < len → ∃ b off, a = some ⟨b, off, none⟩ ∧ b < w.heap.size ∧ RawIn w b (off + i * 4) := by
    obtain ⟨fuel, hf⟩ := h
    rcases Go.Deep.open_slice Tryz.underlying25 hf with ⟨hcs, -⟩ | ⟨x, l, cp, m, n, D, Pl, hcs, -, hl, hm, hmm, hd, hx⟩
    · simp [Value.cells] at hcs
      obtain ⟨rfl, rfl, rfl⟩ := hcs
      exact ⟨by omega, fun i hi => by omega⟩
    · simp [Value.cells] at hcs
      obtain ⟨rfl, rfl, rfl⟩ := hcs
      have hlm : len ≤ m := by rw [hmm]; split <;> omega
      have e1 : d = .slice ((List.range len).map D) ((List.range (m - len)).map fun j => D (len + j)) := congrArg Prod.fst hd
      refine ⟨?_, fun i hi => ?_⟩
      · rw [e1]
        simp only [Rows.uptoBulk]
        have := bulk_len ((List.range len).map D)
        simp only [List.length_map, List.length_range] at this
        omega
      · have hDi : Rows.uptoBulk (D i) ≤ 1048576 := by
          have := bulk_mem (x := D i) (l := (List.range len).map D) (List.mem_map.2 ⟨i, List.mem_range.2 hi, rfl⟩)
          rw [e1] at hk
          simp only [Rows.uptoBulk] at hk
          omega
        obtain ⟨b, off, s⟩ := x
        obtain rfl : s = none := by
          obtain ⟨cs', h1, -⟩ := hx 0 (by omega)
          exact spot_of h1 (by rw [cellsRaw]; omega)
        obtain ⟨cs', h1, h2⟩ := hx i (by omega)
        rw [cellsRaw] at h1
        obtain ⟨e2, e3, e4⟩ := cells_at h1 (by omega)
        obtain ⟨y0, y1, y2, y3, n', hag, -, t0, t1, t2, t3⟩ := struct4 Tryz.underlying43 h2
        simp only [cellsInt, cellsInts, cellsOps] at t0 t1 t2 t3
        have hag' : D i = .agg [y0.1, y1.1, y2.1, y3.1] := hag
        have hy2 : Rows.uptoBulk y2.1 ≤ 1048576 := by
          have := bulk_mem (x := y2.1) (l := [y0.1, y1.1, y2.1, y3.1]) (by simp)
          rw [hag'] at hDi
          simp only [Rows.uptoBulk] at hDi
          omega
        obtain ⟨v0, c0, r0⟩ := num_cell 0 t0
        obtain ⟨ac, nc, cc, xs, c1, hI⟩ := ints_in 1 t1
        obtain ⟨ao, lo, co, c2, hlo, hO⟩ := ops_in 2 t2 hy2
        obtain ⟨v3, c3, r3⟩ := num_cell 3 t3
        have at' : ∀ (k : Nat) (v : Value), k < 4 → cs'[k]? = some v → w.cell? ⟨b, off + i * 4 + k, none⟩ = some v := fun k v hk hv => (e4 k hk).trans hv
        exact ⟨b, off, rfl, e2, v0, v3, ac, nc, cc, xs, ao, lo, co, at' 0 _ (by omega) c0, at' 1 _ (by omega) c1, at' 2 _ (by omega) c2, at' 3 _ (by omega) c3, hlo, r0.2, r3.1, r3.2, hI, hO⟩
  have A2 : len2 ≤ Rows.uptoBulk d2 ∧ ∀ i, i < len2 → ∃ b off s, a2 = some ⟨b, off, none⟩ ∧ b < w.heap.size ∧ w.cell? ⟨b, off + i, none⟩ = some (.string s) := by
    obtain ⟨fuel, hf⟩ := h'
    rcases Go.Deep.open_slice Tryz.underlying26 hf with ⟨hcs, -⟩ | ⟨x, l, cp, m, n, D, Pl, hcs, -, hl, hm, hmm, hd, hx⟩
    · simp [Value.cells] at hcs
      obtain ⟨rfl, rfl, rfl⟩ := hcs
      exact ⟨by omega, fun i hi => by omega⟩
    · simp [Value.cells] at hcs
      obtain ⟨rfl, rfl, rfl⟩ := hcs
      have hlm : len2 ≤ m := by rw [hmm]; split <;> omega
      have e1 : d2 = .slice ((List.range len2).map D) ((List.range (m - len2)).map fun j => D (len2 + j)) := congrArg Prod.fst hd
      refine ⟨?_, fun i hi => ?_⟩
      · rw [e1]
        simp only [Rows.uptoBulk]
        have := bulk_len ((List.range len2).map D)
        simp only [List.length_map, List.length_range] at this
        omega
      · obtain ⟨b, off, s⟩ := x
        obtain rfl : s = none := by
          obtain ⟨cs', h1, -⟩ := hx 0 (by omega)
          exact spot_of h1 (by rw [cellsStr]; omega)
        obtain ⟨cs', h1, h2⟩ := hx i (by omega)
        rw [cellsStr] at h1
        obtain ⟨e2, e3, e4⟩ := cells_at h1 (by omega)
        have h2' : DataW.trod enc Tryz.prog w base spare held n 9 ((cs'.drop 0).take 1) = some (D i, Pl i) := by rw [List.drop_zero, List.take_of_length_le (by omega)]; exact h2
        obtain ⟨v, q1⟩ := str_cell 0 h2'
        refine ⟨b, off, v, rfl, e2, ?_⟩
        rw [← q1, ← e4 0 (by omega)]
        congr 2
        omega
  exact frames_f c h1 h2 a len cap a2 len2 cap2 (by omega) w A1.2 A2.2

set_option maxRecDepth 100000 in
theorem lifted (os : Os) (started : os.Started) (H : Type) (enc : TypeId × Value → H) (F : Stop.Interp) :
    ReturnsInHanded {} Tryz.checked os 5 .any ((Rows.OpenSpec.upto Rows.framesSpec).pre6 enc Tryz.prog Tryz.f5 Rows.framesUptoRow.domain false) (((Rows.OpenSpec.upto Rows.framesSpec).at F).post enc Tryz.prog Tryz.f5 false true false false) := by
  refine returnsInHanded_of_cond (C := Tryz.checked) (s := Rows.OpenSpec.upto Rows.framesSpec) (k := Rows.uptoSmall) rfl own started (by kernel_rfl) Tryz.func5
    (OpenSpec.witness (enc := enc) (C := Tryz.checked) (s := Rows.OpenSpec.upto Rows.framesSpec) (k := Rows.uptoSmall) rfl false ⟨#[], #[.int .i64 0, .slice none 0 0, .slice none 0 0], []⟩ 8 (by kernel_rfl) (by kernel_rfl) (by kernel_rfl)
      (x := ([.lit (.int .i64 0), .nil, .nil], [], [])) (by kernel_rfl) rfl (by kernel_rfl)) ?_
  intro W base args ds gs before hval0 hW _ hk _
  have hval : ∀ (j : Nat) t v, Tryz.f5.params[j]? = some t → args[j]? = some v → Value.okWide Tryz.prog W .any base t v := hval0
  have hW' := hW
  obtain ⟨p, q, hA0, hV, rfl, hfz, hnd⟩ := hW
  have hA : DataW.TrodAll enc Tryz.prog W 0 (fun _ => true) true Tryz.f5.params.toList args.toList ds p := hA0
  rw [Tryz.params5] at hA hval
  obtain ⟨v0, vs0, d0, ds0, p0, q0, hargs, rfl, rfl, h0, r0⟩ := trodAll_cons hA
  obtain ⟨v1, vs1, d1, ds1, p1, q1, rfl, rfl, rfl, h1, r1⟩ := trodAll_cons r0
  obtain ⟨v2, vs2, d2, ds2, p2, q2, rfl, rfl, rfl, h2, r2⟩ := trodAll_cons r1
  obtain ⟨rfl, rfl, rfl⟩ := trodAll_nil r2
  obtain rfl : args = #[v0, v1, v2] := by cases args; simp_all
  obtain ⟨rfl, rfl⟩ := trodVars_none hV
  obtain ⟨a0, rfl, rfl, rfl, w0⟩ := open_int Tryz.underlying3 (hval 0 3 v0 rfl rfl) h0
  obtain ⟨a1, len1, cap1, rfl⟩ := okWide_slice Tryz.underlying25 (hval 1 25 v1 rfl rfl)
  obtain ⟨a2, len2, cap2, rfl⟩ := okWide_slice Tryz.underlying26 (hval 2 26 v2 rfl rfl)
  have k1 := h1
  have k2 := h2
  have lt1 : ∀ x ∈ p1, x.block < W.heap.size := by obtain ⟨m, hm⟩ := k1; exact DataW.trod_lt m _ _ _ hm
  have lt2 : ∀ x ∈ p2, x.block < W.heap.size := by obtain ⟨m, hm⟩ := k2; exact DataW.trod_lt m _ _ _ hm
  have hb : Rows.uptoBulk d1 + Rows.uptoBulk d2 ≤ 1048576 := by
    have h : Rows.uptoBulkAll ([.lit (.int .i64 a0), d1, d2] ++ ([] : List (DataW H))) ≤ 1048576 := of_decide_eq_true hk
    simp only [List.append_nil, Rows.uptoBulkAll, Rows.uptoBulk] at h
    omega
  clear hA0 hval0
  refine (walk a0 w0 a1 len1 cap1 a2 len2 cap2 W h1 h2 hb).mono fun e W' ⟨he, bel⟩ => ?_
  subst he
  exact ⟨_, rfl, _, _, _, [], _, [], hW', trodAll_mk1 (shut_bool Tryz.underlying4 _), (trodAll_cons_mk (shut_int Tryz.underlying3 w0) (trodAll_cons_mk (Below.trod laidOut (by kernel_rfl) (of_decide_eq_true (by kernel_rfl)) k1 bel lt1) (trodAll_cons_mk (Below.trod laidOut (by kernel_rfl) (of_decide_eq_true (by kernel_rfl)) k2 bel lt2) trodAll_mk0))), rfl, bel.frame _, fun h => by cases h⟩

/-- Frames, whatever the input of the given bulk. -/
theorem framesUpto_holds : Rows.FramesUptoSaid :=
  OpenClaim.holds_of_cond 5 Tryz.f5 rfl rfl rfl rfl rfl rfl rfl ⟨rfl, rfl, rfl, rfl, rfl⟩ rfl rfl rfl rfl rfl (by kernel_rfl) Tryz.func5 (by kernel_rfl)
    (of_decide_eq_true (by kernel_rfl)) (by unfold Func.isWrapper; first | (rw [if_pos (by decide +kernel)]; kernel_rfl) | (rw [if_neg (by decide +kernel)]; exact ⟨rfl, rfl⟩))
    (fun os started H enc _ F => lifted os started H enc F)

end Go.Proofs.YtachmkhbbbmioaaGreat

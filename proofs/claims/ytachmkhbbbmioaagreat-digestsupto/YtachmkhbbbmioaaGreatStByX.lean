import Derived.Test.YtachmkhbbbmioaaGreatFrRX
import Derived.Test.YtachmkhbbbmioaaGreatBadX
import Derived.Test.YtachmkhbbbmioaaGreatFaceX
namespace Go.Proofs.YtachmkhbbbmioaaGreat
open Go.RowKit Go.Shelf

/-- The operations of one name. -/
def ofName (ops : List OpR) (i : Nat) (k : Int) : List OpR := ops.filter (fun x => x.o == (i : Int) + 1 && x.num == k)
/-- Those of one copy that a clock does not count. -/
def missO (S : CS) (q : Nat → Int) (i m : Nat) : List OpR := (List.range m).flatMap fun (j : Nat) => ofName S.ops i (q i + 1 + (j : Int))
def missTo (S : CS) (q : Nat → Int) (i : Nat) : List OpR := (List.range i).flatMap fun i => missO S q i (S.cl i - q i).toNat
def miss (S : CS) (q : Nat → Int) : List OpR := missTo S q S.n

theorem missO_succ (S : CS) (q : Nat → Int) (i m : Nat) : missO S q i (m + 1) = missO S q i m ++ ofName S.ops i (q i + 1 + m) := by
  unfold missO
  rw [List.range_succ, List.flatMap_append]; simp
theorem missTo_succ (S : CS) (q : Nat → Int) (i : Nat) : missTo S q (i + 1) = missTo S q i ++ missO S q i (S.cl i - q i).toNat := by
  unfold missTo
  rw [List.range_succ, List.flatMap_append]; simp

/-- There is just one of each name. -/
theorem one_of {ops : List OpR} (h1 : ops.Pairwise (fun x y => ¬ (x.o = y.o ∧ x.num = y.num))) {i : Nat} {k : Int} {x : OpR} (hx : x ∈ ops) (e1 : x.o = (i : Int) + 1) (e2 : x.num = k) :
    ofName ops i k = [x] ∧ ops.find? (fun y => y.o == (i : Int) + 1 && y.num == k) = some x := by
  induction ops with
  | nil => cases hx
  | cons y ops ih =>
    obtain ⟨h2, h3⟩ := List.pairwise_cons.1 h1
    rcases List.mem_cons.1 hx with rfl | hx'
    · have hy : (x.o == (i : Int) + 1 && x.num == k) = true := by simp [e1, e2]
      have hn : ops.filter (fun y => y.o == (i : Int) + 1 && y.num == k) = [] := by
        apply List.filter_eq_nil_iff.2
        intro z hz q
        simp only [Bool.and_eq_true, beq_iff_eq] at q
        exact h2 z hz ⟨by rw [e1, q.1], by rw [e2, q.2]⟩
      refine ⟨?_, by rw [List.find?_cons, hy]⟩
      unfold ofName
      rw [List.filter_cons, if_pos hy, hn]
    · have hy : (y.o == (i : Int) + 1 && y.num == k) = false := by
        rw [Bool.eq_false_iff]
        intro q
        simp only [Bool.and_eq_true, beq_iff_eq] at q
        exact h2 x hx' ⟨by rw [e1, q.1], by rw [e2, q.2]⟩
      obtain ⟨h4, h5⟩ := ih h3 hx'
      refine ⟨?_, by rw [List.find?_cons, hy]; exact h5⟩
      unfold ofName
      rw [List.filter_cons, hy, if_neg (by simp)]
      exact h4

theorem OpsOk.at {S : CS} (h : OpsOk S) {i : Nat} (hi : i < S.n) {k : Int} (h1 : 1 ≤ k) (h2 : k ≤ S.cl i) : ∃ x ∈ S.ops, ofName S.ops i k = [x] ∧ S.ops.find? (fun y => y.o == (i : Int) + 1 && y.num == k) = some x := by
  obtain ⟨x, hx, e1, e2⟩ := h.all i hi k h1 h2
  exact ⟨x, hx, one_of h.one hx e1 e2⟩

theorem missO_len {S : CS} (h : OpsOk S) {i : Nat} (hi : i < S.n) (q : Nat → Int) (hq : 0 ≤ q i) : ∀ m : Nat, q i + m ≤ S.cl i → (missO S q i m).length = m
  | 0, _ => by simp [missO]
  | m + 1, hm => by
    obtain ⟨x, -, e1, -⟩ := h.at hi (k := q i + 1 + m) (by omega) (by omega)
    rw [missO_succ, List.length_append, missO_len h hi q hq m (by omega), e1]; rfl

theorem missTo_len {S : CS} (hG : Good S) (h : OpsOk S) (q : Nat → Int) (hq : ∀ i, i < S.n → 0 ≤ q i) : ∀ i, i ≤ S.n → (missTo S q i).length ≤ 100 * i
  | 0, _ => by simp [missTo]
  | i + 1, hi => by
    have h8 := hG.n8
    have h1 := missTo_len hG h q hq i (by omega)
    have h2 := hq i (by omega)
    have h3 := hG.cl i (by omega)
    rw [missTo_succ, List.length_append]
    by_cases hc : q i ≤ S.cl i
    · rw [missO_len h (by omega) q h2 _ (by omega)]
      omega
    · have : (S.cl i - q i).toNat = 0 := by omega
      rw [this]
      simp only [missO, List.range_zero, List.flatMap_nil, List.length_nil]
      omega

theorem ofName_mem {ops : List OpR} {i : Nat} {k : Int} {x : OpR} (h : x ∈ ofName ops i k) : x ∈ ops := (List.mem_filter.1 h).1
theorem miss_mem {S : CS} {q : Nat → Int} {x : OpR} {m : Nat} (h : x ∈ missTo S q m) : x ∈ S.ops := by
  obtain ⟨i, -, h1⟩ := List.mem_flatMap.1 h
  obtain ⟨j, -, h2⟩ := List.mem_flatMap.1 h1
  exact ofName_mem h2

theorem lookOp {w : World} {b : Nat} {l : List Ent} (h : entsAt w b l) (c k : Int) {v : Value} (hv : look c k l = some v) :
    (Instr.lookup 135 (.map (some b)) (pr c k) false).run Tryz.prog w = .ok v w := by
  have := run_lookup keyName (fun w => Tryz.zeroValue154 w) h c k
  rw [this, hv]; rfl

theorem infoOpP : (Tryz.prog.info? 154).map (fun i => (i.zero, i.size, i.bytes)) = some (some (.agg (opArr 0 0 0 0 0 0 0 (fun _ => 0))), 15, 120) := by kernel_rfl

set_option maxRecDepth 100000 in
set_option maxHeartbeats 4000000 in
theorem beyondP (sb ma mp lb mb : Nat) (S : CS) (hG : Good S) (ho : OpsOk S) (q : Nat → Int) (hq : ∀ i, i < S.n → 0 ≤ q i ∧ q i ≤ 100) (w : World) (hS : StAt sb ma mp lb mb S w) :
    Calls Tryz.prog 89 #[.pointer (some ⟨sb, 0, none⟩), .agg (ckArr q)] w fun e w' => ∃ v', e = .returned v' ∧ RowAt 154 15 v' (opRow (miss S q)) w' ∧ w.grownBy w' none := by
  have h8 := hG.n8
  have hml := missTo_len hG ho q (fun i hi => (hq i hi).1)
  have HG : Hid (∀ w1, (w.alloc (.cells (ckArr q) 134)) = w1 → w.grownBy w1 none ∧ w1.heap[w.heap.size]? = some (.cells (ckArr q) 134)) := by
    rintro w1 rfl
    exact ⟨grown_alloc (grown_refl _) _, by rw [heap_alloc_at]; simp⟩
  go_enter Tryz.func89, Tryz.ntmps89
  unfold ckArr
  go_upto_region 1 with fail
  have HG' : Hid (∀ w1, (w.alloc (.cells #[.int .i64 (q 0), .int .i64 (q 1), .int .i64 (q 2), .int .i64 (q 3), .int .i64 (q 4), .int .i64 (q 5), .int .i64 (q 6), .int .i64 (q 7)] 134)) = w1 → w.grownBy w1 none ∧ w1.heap[w.heap.size]? = some (.cells (ckArr q) 134)) := HG
  clear HG
  generalize hw1 : (w.alloc (.cells #[.int .i64 (q 0), .int .i64 (q 1), .int .i64 (q 2), .int .i64 (q 3), .int .i64 (q 4), .int .i64 (q 5), .int .i64 (q 6), .int .i64 (q 7)] 134)) = w1
  obtain ⟨g1, k1⟩ := HG'.out w1 hw1
  clear hw1 HG'
  have hS1 := hS.grown g1
  generalize w.heap.size = bq at k1 ⊢
  go_wp2_with fail
  go_loopg [5, 6] S.n (fun gk s5 s6 wr => ∃ (i : Nat), s6 = .int .i64 ((i : Int) + 1) ∧ i ≤ S.n ∧ gk = S.n - i ∧ RowAt 154 15 s5 (opRow (missTo S q i)) wr ∧ w1.grownBy wr none ∧ (∀ g, s5.ownBlock = some g → w1.heap.size ≤ g))
  case atStart => exact ⟨0, rfl, by omega, rfl, row_nil _ _ _, grown_refl _, by simp [Value.ownBlock]⟩
  case round =>
    obtain ⟨i, rfl, hil, hgk0, hR, hg, hO⟩ := hrel
    have hS2 := hS1.grown hg
    have c0 : wr.cell? ⟨sb, 0, none⟩ = some (.int .i64 S.n) := cell_blk hS2.st 0
    by_cases hlt : i < S.n
    · have hli : (i : Int) + 1 ≤ (S.n : Int) := by omega
      have hqi := hq i hlt
      have hci := hG.cl i (by omega)
      have kq := (hg.block _ (lt_of_heap k1) (by simp)).trans k1
      have hcell : wr.cell? ⟨bq, 0 + (((i : Int) + 1).toNat - 1), none⟩ = some (.int .i64 (q i)) := by
        have e : 0 + (((i : Int) + 1).toNat - 1) = i := by omega
        rw [e, cell_blk kq i]; exact ckArr_at q i (by omega)
      have hOf := hide (of_any bq 0 ((i : Int) + 1) (by omega) (by omega) (q i) wr hcell)
      have hw1 : IntKind.i64.wrap (q i + 1) = q i + 1 := by rw [IntKind.wrap_i64]; omega
      have hmi := hml i hil
      obtain ⟨T, hT⟩ : ∃ T, missTo S q i = T := ⟨_, rfl⟩
      have HT := hide hT
      rw [hT] at hR hmi
      clear hcell hT
      go_wp2_with fail
      refine hOf.out.mono ?_
      rintro e w2 ⟨rfl, hw2⟩
      rw [hw2]
      clear hw2 w2
      go_wp2_with fail
      clear c0
      go_loopg [5, 7] (S.cl i - q i).toNat (fun gk s5 s7 wr => ∃ (j : Nat), s7 = .int .i64 (q i + 1 + (j : Int)) ∧ j ≤ (S.cl i - q i).toNat ∧ gk = (S.cl i - q i).toNat - j ∧ RowAt 154 15 s5 (opRow (T ++ missO S q i j)) wr ∧ w1.grownBy wr none ∧ (∀ g, s5.ownBlock = some g → w1.heap.size ≤ g))
      case atStart => exact ⟨0, by simp, by omega, rfl, by simpa [missO] using hR, hg, hO⟩
      case round =>
        clear hR hg hO hS2 kq
        obtain ⟨j, rfl, hjl, hgk, hR, hg, hO⟩ := hrel
        have hS2 := hS1.grown hg
        have hcell : wr.cell? ⟨sb, 2 + (((i : Int) + 1).toNat - 1), none⟩ = some (.int .i64 (S.cl i)) := by
          have e : 2 + (((i : Int) + 1).toNat - 1) = 2 + i := by omega
          rw [e]; exact hS2.clock i (by omega)
        have hOf := hide (of_any sb 2 ((i : Int) + 1) (by omega) (by omega) (S.cl i) wr hcell)
        clear hcell
        by_cases hjt : j < (S.cl i - q i).toNat
        · have hle : q i + 1 + (j : Int) ≤ S.cl i := by omega
          obtain ⟨x, hx, e1, e2⟩ := ho.at hlt (k := q i + 1 + (j : Int)) (by omega) hle
          obtain ⟨E, hE, hAI⟩ := hS2.app
          have hlk : look ((i : Int) + 1) (q i + 1 + (j : Int)) E = some (.agg x.arr) := by rw [hAI, e2]; rfl
          have hLk := lookOp hE ((i : Int) + 1) (q i + 1 + (j : Int)) hlk
          unfold OpR.arr opArr at hLk
          have c4 : wr.cell? ⟨sb, 11, none⟩ = some (.map (some ma)) := cell_blk hS2.st 11
          have hml2 := missO_len ho hlt q hqi.1 j (by omega)
          have hw2 : IntKind.i64.wrap (q i + 1 + (j : Int) + 1) = q i + 1 + ((j + 1 : Nat) : Int) := by rw [IntKind.wrap_i64]; omega
          have g3 : wr.grownBy (wr.alloc (.cells #[.int .i64 x.o, .int .i64 x.num, .int .i64 x.c, .int .i64 x.kind, .int .i64 x.tc, .int .i64 x.tk, .int .i32 x.r, .int .i64 (x.q 0), .int .i64 (x.q 1), .int .i64 (x.q 2), .int .i64 (x.q 3), .int .i64 (x.q 4), .int .i64 (x.q 5), .int .i64 (x.q 6), .int .i64 (x.q 7)] 154)) none := grown_alloc (grown_refl _) _
          have hSr : SrcAt (wr.alloc (.cells #[.int .i64 x.o, .int .i64 x.num, .int .i64 x.c, .int .i64 x.kind, .int .i64 x.tc, .int .i64 x.tk, .int .i32 x.r, .int .i64 (x.q 0), .int .i64 (x.q 1), .int .i64 (x.q 2), .int .i64 (x.q 3), .int .i64 (x.q 4), .int .i64 (x.q 5), .int .i64 (x.q 6), .int .i64 (x.q 7)] 154)) (.slice (some ⟨wr.heap.size, 0, none⟩) 1 1) (opRow [x]) := src_new wr x.arr.toList _
          have hR3 := hR.grown g3
          have hG3 := grown_trans hg g3
          have lr : (opRow (T ++ missO S q i j)).length ≤ 2000 := by rw [opRow_len, List.length_append, hml2]; omega
          have l1 : (opRow [x]).length = 1 := rfl
          clear hlk e2 hE hAI hml2
          go_wp2_with fail
          refine hOf.out.mono ?_
          rintro e w2 ⟨rfl, hw2⟩
          rw [hw2]
          clear hw2 w2
          go_wp2_with (at_builtin; refine wpList_row Tryz.underlying141 infoOpP rfl (by decide) rfl _ _ rfl u5 _ rfl hR3 _ _ rfl hSr (opRow_one _) (opRow_cell _) (by unfold maxLen; omega) (by omega) ?_; intro v5 w5 hR5 hg5 hat)
          go_roundg ((S.cl i - q i).toNat - (j + 1))
          case measure => omega
          case rel =>
            refine ⟨j + 1, rfl, by omega, rfl, ?_, ((Fr.ofGrown hG3).grown hg5 (fun k hk => .inr (hO k hk)) : Fr [] w1 w5).toGrown, fun g hg => ?_⟩
            · rw [missO_succ, e1, ← List.append_assoc]
              have : opRow (T ++ missO S q i j ++ [x]) = opRow (T ++ missO S q i j) ++ opRow [x] := by simp [opRow]
              rw [this]; exact hR5
            · rcases hat with hat | hat
              · exact hO g (hat ▸ hg)
              · rw [hat] at hg; cases hg; exact hG3.size
        · have hle : ¬ q i + 1 + (j : Int) ≤ S.cl i := by omega
          have hje : j = (S.cl i - q i).toNat := by omega
          have HJ := hide hje
          clear hje
          go_wp2_with fail
          refine hOf.out.mono ?_
          rintro e w2 ⟨rfl, hw2⟩
          rw [hw2]
          clear hw2 w2
          go_wp2_with fail
          go_roundg (S.n - (i + 1))
          case measure => omega
          case rel => exact ⟨i + 1, by go_num, by omega, rfl, by rw [missTo_succ, HT.out, ← HJ.out]; exact hR, hg, hO⟩
    · obtain rfl : i = S.n := by omega
      have hlf : ¬ (S.n : Int) + 1 ≤ (S.n : Int) := by omega
      go_wp2_with fail
      go_ret
      exact ⟨_, rfl, hR, grown_trans g1 hg⟩

end Go.Proofs.YtachmkhbbbmioaaGreat

namespace Go.Proofs.YtachmkhbbbmioaaGreat
open Go.RowKit Go.Shelf

set_option maxRecDepth 100000 in
set_option maxHeartbeats 4000000 in
theorem stTickP (sb ma mp lb mb : Nat) (S : CS) (hG : Good S) (w : World) (hS : StAt sb ma mp lb mb S w) :
    Calls Tryz.prog 63 #[.pointer (some ⟨sb, 0, none⟩)] w fun e w' => e = .returned (str (digest S.n S.s S.cl)) ∧ w.grownBy w' none := by
  have h8 := hG.n8
  have hs1 := hG.s1
  have hsn := hG.sn
  have hst := hS.st
  unfold stArr at hst
  have c0 : w.cell? ⟨sb, 0, none⟩ = some (.int .i64 S.n) := cell_blk hst 0
  have c1 : w.cell? ⟨sb, 1, none⟩ = some (.int .i64 S.s) := cell_blk hst 1
  have c2 : w.cell? ⟨sb, 2, none⟩ = some (.int .i64 (S.cl 0)) := cell_blk hst 2
  have c3 : w.cell? ⟨sb, 3, none⟩ = some (.int .i64 (S.cl 1)) := cell_blk hst 3
  have c4 : w.cell? ⟨sb, 4, none⟩ = some (.int .i64 (S.cl 2)) := cell_blk hst 4
  have c5 : w.cell? ⟨sb, 5, none⟩ = some (.int .i64 (S.cl 3)) := cell_blk hst 5
  have c6 : w.cell? ⟨sb, 6, none⟩ = some (.int .i64 (S.cl 4)) := cell_blk hst 6
  have c7 : w.cell? ⟨sb, 7, none⟩ = some (.int .i64 (S.cl 5)) := cell_blk hst 7
  have c8 : w.cell? ⟨sb, 8, none⟩ = some (.int .i64 (S.cl 6)) := cell_blk hst 8
  have c9 : w.cell? ⟨sb, 9, none⟩ = some (.int .i64 (S.cl 7)) := cell_blk hst 9
  have HW := hide (writeDigP S.n h8 S.s (by omega) (by omega) S.cl (fun i hi => hG.cl i (by omega)) w.drew)
  unfold ckArr at HW
  generalize digest S.n S.s S.cl = D at HW ⊢
  clear hst hS
  go_enter Tryz.func63, Tryz.ntmps63
  go_wp2_with fail
  go_region_held3 (fun w' => w'.cell? ⟨sb, 0, none⟩ = some (.int .i64 S.n) ∧ w'.cell? ⟨sb, 1, none⟩ = some (.int .i64 S.s) ∧ w'.cell? ⟨sb, 2, none⟩ = some (.int .i64 (S.cl 0)) ∧ w'.cell? ⟨sb, 3, none⟩ = some (.int .i64 (S.cl 1)) ∧ w'.cell? ⟨sb, 4, none⟩ = some (.int .i64 (S.cl 2)) ∧ w'.cell? ⟨sb, 5, none⟩ = some (.int .i64 (S.cl 3)) ∧ w'.cell? ⟨sb, 6, none⟩ = some (.int .i64 (S.cl 4)) ∧ w'.cell? ⟨sb, 7, none⟩ = some (.int .i64 (S.cl 5)) ∧ w'.cell? ⟨sb, 8, none⟩ = some (.int .i64 (S.cl 6)) ∧ w'.cell? ⟨sb, 9, none⟩ = some (.int .i64 (S.cl 7)))
    (first | go_keep | exact ⟨ck _ _ c0, ck _ _ c1, ck _ _ c2, ck _ _ c3, ck _ _ c4, ck _ _ c5, ck _ _ c6, ck _ _ c7, ck _ _ c8, ck _ _ c9⟩)
    (first | (go_at_call 86; refine HW.out.mono ?_; rintro e w1 ⟨rfl, hg⟩; have ck : ∀ (a : Addr) (x : Value), w.cell? a = some x → w1.cell? a = some x := fun a x hx => cell_of_grown hx (grown_trans (grown_drew (grown_refl w)) hg)))
  all_goals
    go_wp2_with fail
    go_ret
    exact ⟨rfl, grown_trans (grown_drew (grown_refl w)) hg⟩

theorem missO_congr (S : CS) {q q' : Nat → Int} {i : Nat} (h : q i = q' i) (m : Nat) : missO S q i m = missO S q' i m := by unfold missO; rw [h]
theorem miss_part (S : CS) (q : Nat → Int) : miss S (partCk q S.n) = miss S q := by
  unfold miss missTo
  rw [List.flatMap_def, List.flatMap_def]
  congr 1
  apply List.map_congr_left
  intro i hi
  have h1 : partCk q S.n i = q i := by unfold partCk; rw [if_pos (List.mem_range.1 hi)]
  rw [h1]
  exact missO_congr S h1 _

set_option maxRecDepth 100000 in
set_option maxHeartbeats 4000000 in
theorem stHandP (sb ma mp lb mb : Nat) (S : CS) (hG : Good S) (ho : OpsOk S) (s : Int) (hs1 : 1 ≤ s) (hsn : s ≤ S.n) (q : Nat → Int) (hq : ∀ i, i < S.n → 0 ≤ q i ∧ q i ≤ 100) (w : World) (hS : StAt sb ma mp lb mb S w) :
    Calls Tryz.prog 64 #[.pointer (some ⟨sb, 0, none⟩), str (digest S.n s q)] w fun e w' => ∃ v', e = .returned (.tuple #[v', .int .i64 0]) ∧ RowAt 9 1 v' (strRow (answers S.n (miss S q))) w' ∧ w.grownBy w' none ∧ (∀ g, v'.ownBlock = some g → w.heap.size ≤ g) := by
  have h8 := hG.n8
  have c0 : w.cell? ⟨sb, 0, none⟩ = some (.int .i64 S.n) := cell_blk hS.st 0
  have HR := hide (readT S.n h8 s hs1 hsn q hq w)
  have hBy := fun (w' : World) (hw : StAt sb ma mp lb mb S w') => beyondP sb ma mp lb mb S hG ho (partCk q S.n) (fun i hi => by unfold partCk; rw [if_pos hi]; exact hq i hi) w' hw
  rw [miss_part] at hBy
  have hml := missTo_len hG ho q (fun i hi => (hq i hi).1) S.n (Nat.le_refl _)
  have hWb := fun (v : Value) (w' : World) (hv : RowAt 154 15 v (opRow (miss S q)) w') => writeBsP S.n h8 (miss S q) (by show (missTo S q S.n).length ≤ 1000; omega) (fun x hx => (ho.ok x (miss_mem hx)).1) v w' hv
  unfold ckArr at hBy
  unfold frArr at HR
  generalize answers S.n (miss S q) = AN at hWb ⊢
  generalize miss S q = MS at hBy hWb
  generalize partCk q S.n = qq at HR hBy
  generalize digest S.n s q = D at HR ⊢
  have HBy := hide hBy
  have HWb := hide hWb
  clear hBy hWb hml hq
  go_enter Tryz.func64, Tryz.ntmps64
  go_wp2_with fail
  refine HR.out.mono ?_
  rintro e w1 ⟨rfl, g1⟩
  have hS1 := hS.grown g1
  go_upto_region 2 with fail
  have g2 : w1.grownBy (w1.alloc (.cells #[.int .i64 0, .int .i64 s, .int .i64 (qq 0), .int .i64 (qq 1), .int .i64 (qq 2), .int .i64 (qq 3), .int .i64 (qq 4), .int .i64 (qq 5), .int .i64 (qq 6), .int .i64 (qq 7), .slice none 0 0] 143)) none := grown_alloc (grown_refl _) _
  have k2 : (w1.alloc (.cells #[.int .i64 0, .int .i64 s, .int .i64 (qq 0), .int .i64 (qq 1), .int .i64 (qq 2), .int .i64 (qq 3), .int .i64 (qq 4), .int .i64 (qq 5), .int .i64 (qq 6), .int .i64 (qq 7), .slice none 0 0] 143)).heap[w1.heap.size]? = some (.cells #[.int .i64 0, .int .i64 s, .int .i64 (qq 0), .int .i64 (qq 1), .int .i64 (qq 2), .int .i64 (qq 3), .int .i64 (qq 4), .int .i64 (qq 5), .int .i64 (qq 6), .int .i64 (qq 7), .slice none 0 0] 143) := by rw [heap_alloc_at]; simp
  generalize (w1.alloc (.cells #[.int .i64 0, .int .i64 s, .int .i64 (qq 0), .int .i64 (qq 1), .int .i64 (qq 2), .int .i64 (qq 3), .int .i64 (qq 4), .int .i64 (qq 5), .int .i64 (qq 6), .int .i64 (qq 7), .slice none 0 0] 143)) = w2 at g2 k2 ⊢
  generalize w1.heap.size = bf at k2 ⊢
  have hS2 := hS1.grown g2
  have gA := grown_trans g1 g2
  have a0 : w2.cell? ⟨sb, 0, none⟩ = some (.int .i64 S.n) := cell_blk hS2.st 0
  have d0 : w2.cell? ⟨bf, 0, none⟩ = some (.int .i64 0) := cell_blk k2 0
  have d2 : w2.cell? ⟨bf, 2, none⟩ = some (.int .i64 (qq 0)) := cell_blk k2 2
  have d3 : w2.cell? ⟨bf, 3, none⟩ = some (.int .i64 (qq 1)) := cell_blk k2 3
  have d4 : w2.cell? ⟨bf, 4, none⟩ = some (.int .i64 (qq 2)) := cell_blk k2 4
  have d5 : w2.cell? ⟨bf, 5, none⟩ = some (.int .i64 (qq 3)) := cell_blk k2 5
  have d6 : w2.cell? ⟨bf, 6, none⟩ = some (.int .i64 (qq 4)) := cell_blk k2 6
  have d7 : w2.cell? ⟨bf, 7, none⟩ = some (.int .i64 (qq 5)) := cell_blk k2 7
  have d8 : w2.cell? ⟨bf, 8, none⟩ = some (.int .i64 (qq 6)) := cell_blk k2 8
  have d9 : w2.cell? ⟨bf, 9, none⟩ = some (.int .i64 (qq 7)) := cell_blk k2 9
  have HB2 := hide (HBy.out w2.drew (hS2.grown (grown_drew (grown_refl w2))))
  clear c0 HR HBy hS1 hS k2 g1 g2
  go_upto_region 7 with fail
  go_region_held3 (fun w' => w'.cell? ⟨sb, 0, none⟩ = some (.int .i64 S.n) ∧ w'.cell? ⟨bf, 2, none⟩ = some (.int .i64 (qq 0)) ∧ w'.cell? ⟨bf, 3, none⟩ = some (.int .i64 (qq 1)) ∧ w'.cell? ⟨bf, 4, none⟩ = some (.int .i64 (qq 2)) ∧ w'.cell? ⟨bf, 5, none⟩ = some (.int .i64 (qq 3)) ∧ w'.cell? ⟨bf, 6, none⟩ = some (.int .i64 (qq 4)) ∧ w'.cell? ⟨bf, 7, none⟩ = some (.int .i64 (qq 5)) ∧ w'.cell? ⟨bf, 8, none⟩ = some (.int .i64 (qq 6)) ∧ w'.cell? ⟨bf, 9, none⟩ = some (.int .i64 (qq 7)))
    (first | go_keep | exact ⟨ck _ _ a0, ck _ _ d2, ck _ _ d3, ck _ _ d4, ck _ _ d5, ck _ _ d6, ck _ _ d7, ck _ _ d8, ck _ _ d9⟩)
    (first | (go_at_call 89; refine HB2.out.mono ?_; rintro e w3 ⟨v3, rfl, hR3, g3⟩; have ck : ∀ (a : Addr) (x : Value), w2.cell? a = some x → w3.cell? a = some x := fun a x hx => cell_of_grown hx (grown_trans (grown_drew (grown_refl w2)) g3)) | (go_at_call 88; refine (HWb.out _ _ hR3).mono ?_; rintro e w4 ⟨v4, rfl, hR4, g4, hO4⟩; have ck : ∀ (a : Addr) (x : Value), w2.cell? a = some x → w4.cell? a = some x := fun a x hx => cell_of_grown hx (grown_trans (grown_trans (grown_drew (grown_refl w2)) g3) g4)))
  all_goals
    go_wp2_with fail
    exact bodyPost_ret (v := .tuple #[v4, .int .i64 0]) (by simp [results, Tryz.results64, go_sem]) rfl ⟨v4, rfl, hR4, grown_trans gA (grown_trans (grown_trans (grown_drew (grown_refl w2)) g3) g4), fun g hg => by have := hO4 g hg; have := g3.size; have := gA.size; have : w2.drew.heap.size = w2.heap.size := rfl; omega⟩

end Go.Proofs.YtachmkhbbbmioaaGreat

namespace Go.Proofs.YtachmkhbbbmioaaGreat
open Go.RowKit Go.Shelf Go.MuLone

set_option maxRecDepth 100000 in
set_option maxHeartbeats 1000000 in
theorem face_tick (cb sb ma mp lb mb : Nat) (S : CS) (w : World) (h : CpAt cb sb ma mp lb mb S w) (v : Value) (Post : World → Prop)
    (hin : ∀ w1, w1.heap.size = w.heap.size → StAt sb ma mp lb mb S w1 → Calls Tryz.prog 63 #[.pointer (some ⟨sb, 0, none⟩)] w1 fun e w2 => e = .returned v ∧ Post w2 ∧ Fr (own3 sb ma mb) w1 w2) :
    Calls Tryz.prog 30 #[.pointer (some ⟨cb, 0, none⟩)] w fun e w' => e = .returned v ∧ ∃ w2, Post w2 ∧ w2.heap[cb]? = some (.cells #[.int .i32 1, .int .u32 0, .pointer (some ⟨sb, 0, none⟩)] 112) ∧ w' = w2.setCell ⟨cb, 0, none⟩ (.int .i32 0) ∧ Fr (own4 cb sb ma mb) w w' := by
  have c0 : w.cell? ⟨cb, 0, none⟩ = some (.int .i32 0) := cell_blk h.cp 0
  have f0 : w.frozen? ⟨cb, 0, none⟩ = false := frozen_blk h.cp 0
  obtain ⟨n1, n2, n3, n4, n5⟩ := h.ne
  have hS1 := h.locked (.int .i32 1)
  have k1 : (w.setCell ⟨cb, 0, none⟩ (.int .i32 1)).heap[cb]? = some (.cells #[.int .i32 1, .int .u32 0, .pointer (some ⟨sb, 0, none⟩)] 112) := by rw [set_blk h.cp]; rfl
  have c2 : (w.setCell ⟨cb, 0, none⟩ (.int .i32 1)).cell? ⟨cb, 2, none⟩ = some (.pointer (some ⟨sb, 0, none⟩)) := cell_blk k1 2
  have hF1 : Fr (own4 cb sb ma mb) w (w.setCell ⟨cb, 0, none⟩ (.int .i32 1)) := (Fr.refl _ w).setCell (.inl (by simp)) _
  have hC := hide (hin (w.setCell ⟨cb, 0, none⟩ (.int .i32 1)) (by simp [World.setCell]) hS1)
  clear hin
  go_enter_defers Tryz.func30, Tryz.ntmps30
  go_wp2_with (go_at_call 59; refine (lock_free muLib ⟨cb, 0, none⟩ _ c0 f0).mono ?_; rintro e w' ⟨rfl, rfl⟩)
  refine hC.out.mono ?_
  rintro e w2 ⟨rfl, hP, hF2⟩
  have k2 : w2.heap[cb]? = some (.cells #[.int .i32 1, .int .u32 0, .pointer (some ⟨sb, 0, none⟩)] 112) := hF2.blk k1 (by simp [n1, n2, n5])
  go_wp2_with fail
  refine leaves_cons (f := 60) (args := #[.pointer (some ⟨cb, 0, none⟩)]) (by simp) (by simp [go_sem]) ?_
  refine (unlock_deferred muLib ⟨cb, 0, none⟩ .returning _ (cell_blk k2 0) (frozen_blk k2 0)).mono ?_
  rintro e u' w3 ⟨rfl, rfl, rfl⟩
  exact ⟨_, results_tmp rfl _ _ _, rfl, w2, hP, k2, rfl, (hF1.trans (hF2.mono (by simp))).setCell (.inl (by simp)) _⟩

set_option maxRecDepth 100000 in
set_option maxHeartbeats 1000000 in
theorem face_hand (cb sb ma mp lb mb : Nat) (S : CS) (D : Value) (w : World) (h : CpAt cb sb ma mp lb mb S w) (Post : Value → World → Prop)
    (hin : ∀ w1, w1.heap.size = w.heap.size → StAt sb ma mp lb mb S w1 → Calls Tryz.prog 64 #[.pointer (some ⟨sb, 0, none⟩), D] w1 fun e w2 => ∃ v, e = .returned (.tuple #[v, .int .i64 0]) ∧ Post v w2 ∧ Fr (own3 sb ma mb) w1 w2) :
    Calls Tryz.prog 31 #[.pointer (some ⟨cb, 0, none⟩), D] w fun e w' => ∃ v, e = .returned (.tuple #[v, .int .i64 0]) ∧ ∃ w2, Post v w2 ∧ w2.heap[cb]? = some (.cells #[.int .i32 1, .int .u32 0, .pointer (some ⟨sb, 0, none⟩)] 112) ∧ w' = w2.setCell ⟨cb, 0, none⟩ (.int .i32 0) ∧ Fr (own4 cb sb ma mb) w w' := by
  have c0 : w.cell? ⟨cb, 0, none⟩ = some (.int .i32 0) := cell_blk h.cp 0
  have f0 : w.frozen? ⟨cb, 0, none⟩ = false := frozen_blk h.cp 0
  obtain ⟨n1, n2, n3, n4, n5⟩ := h.ne
  have hS1 := h.locked (.int .i32 1)
  have k1 : (w.setCell ⟨cb, 0, none⟩ (.int .i32 1)).heap[cb]? = some (.cells #[.int .i32 1, .int .u32 0, .pointer (some ⟨sb, 0, none⟩)] 112) := by rw [set_blk h.cp]; rfl
  have c2 : (w.setCell ⟨cb, 0, none⟩ (.int .i32 1)).cell? ⟨cb, 2, none⟩ = some (.pointer (some ⟨sb, 0, none⟩)) := cell_blk k1 2
  have hF1 : Fr (own4 cb sb ma mb) w (w.setCell ⟨cb, 0, none⟩ (.int .i32 1)) := (Fr.refl _ w).setCell (.inl (by simp)) _
  have hC := hide (hin (w.setCell ⟨cb, 0, none⟩ (.int .i32 1)) (by simp [World.setCell]) hS1)
  clear hin
  go_enter_defers Tryz.func31, Tryz.ntmps31
  go_wp2_with (go_at_call 59; refine (lock_free muLib ⟨cb, 0, none⟩ _ c0 f0).mono ?_; rintro e w' ⟨rfl, rfl⟩)
  refine hC.out.mono ?_
  rintro e w2 ⟨v, rfl, hP, hF2⟩
  have k2 : w2.heap[cb]? = some (.cells #[.int .i32 1, .int .u32 0, .pointer (some ⟨sb, 0, none⟩)] 112) := hF2.blk k1 (by simp [n1, n2, n5])
  go_wp2_with fail
  refine leaves_cons (f := 60) (args := #[.pointer (some ⟨cb, 0, none⟩)]) (by simp) (by simp [go_sem]) ?_
  refine (unlock_deferred muLib ⟨cb, 0, none⟩ .returning _ (cell_blk k2 0) (frozen_blk k2 0)).mono ?_
  rintro e u' w3 ⟨rfl, rfl, rfl⟩
  exact ⟨.tuple #[v, .int .i64 0], by simp [results, Tryz.results31, go_sem], v, rfl, w2, hP, k2, rfl, (hF1.trans (hF2.mono (by simp))).setCell (.inl (by simp)) _⟩

end Go.Proofs.YtachmkhbbbmioaaGreat

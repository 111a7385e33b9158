import Derived.Test.YtachmkhbbbmioaaGreatRowPX
import Derived.Test.YtachmkhbbbmioaaGreatRefVX
import Derived.ArgAppend
import Derived.Deep.Upon
import Derived.Test.YtachmkhbbbmioaaGreatRefEX
import Derived.Test.YtachmkhbbbmioaaGreatLineQX
import Derived.Test.YtachmkhbbbmioaaGreatRefFX
import Derived.Test.YtachmkhbbbmioaaGreatBadX
namespace Go.Proofs.YtachmkhbbbmioaaGreat
open Go.RowKit Go.Shelf

theorem infoU8 : (Tryz.prog.info? 5).map (fun i => (i.zero, i.size, i.bytes)) = some (some (.int .u8 0), 1, 1) := by kernel_rfl

theorem by_of {x : Int} (h0 : 0 ≤ x) (h1 : x < 256) : byRow [UInt8.ofNat x.toNat] = [[.int .u8 x]] := by
  have e : ((UInt8.ofNat x.toNat).toNat : Int) = x := by
    have : (UInt8.ofNat x.toNat).toNat = x.toNat := by simp; omega
    omega
  simp only [byRow, List.map_cons, List.map_nil, e]

theorem src_of (w : World) {x : Int} (h0 : 0 ≤ x) (h1 : x < 256) : SrcAt (w.alloc (.cells #[.int .u8 x] 5)) (.slice (some ⟨w.heap.size, 0, none⟩) 1 1) (byRow [UInt8.ofNat x.toNat]) := by
  rw [by_of h0 h1]
  refine .inr ⟨_, _, rfl, fun j y hj => ?_⟩
  have hk : (w.alloc (.cells #[.int .u8 x] 5)).heap[w.heap.size]? = some (.cells #[.int .u8 x] 5) := by rw [heap_alloc_at]; simp
  rw [Addr.add_lit, Nat.zero_add, cell_blk hk j]
  simpa using hj

set_option maxRecDepth 100000 in
set_option maxHeartbeats 4000000 in
theorem appVar (v : Value) (l : List UInt8) (xs : List Int) (gn c : Nat) (w : World) (hv : RowAt 5 1 v (byRow l) w) (hn : w.heap[gn]? = some (.cells (xs.map (Value.int .i64)).toArray 2)) (hxs : ∀ x ∈ xs, 0 ≤ x ∧ x < 4611686018427387904) (hl : l.length ≤ 100000) (hx : xs.length ≤ 100) :
    Calls Tryz.prog 122 #[v, .slice (some ⟨gn, 0, none⟩) xs.length c] w fun e w' => ∃ v', e = .returned v' ∧ RowAt 5 1 v' (byRow (l ++ vbs xs)) w' ∧ Fr v.ownBlock.toList w w' ∧ (∀ g, v'.ownBlock = some g → v.ownBlock = some g ∨ w.heap.size ≤ g) := by
  have hgn : ∀ g, v.ownBlock = some g → g ≠ gn := fun g hg q => by
    obtain ⟨cur, hb⟩ := hv.blk hg
    rw [q, hn] at hb
    cases hb
  go_enter Tryz.func122, Tryz.ntmps122
  go_wp2_with fail
  go_loopg [0, 9] xs.length (fun gk s0 s9 wr => ∃ (i : Nat), s9 = .int .i64 i ∧ i ≤ xs.length ∧ gk = xs.length - i ∧ RowAt 5 1 s0 (byRow (l ++ vbs (xs.take i))) wr ∧ Fr v.ownBlock.toList w wr ∧ (∀ g, s0.ownBlock = some g → v.ownBlock = some g ∨ w.heap.size ≤ g))
  case atStart => exact ⟨0, rfl, by omega, rfl, by simpa [vbs] using hv, Fr.refl _ _, fun g hg => .inl hg⟩
  case round =>
    obtain ⟨i, rfl, hil, hgk0, hR, hF, hO⟩ := hrel
    by_cases hlt : i < xs.length
    · have hli : (i : Int) < (xs.length : Int) := by omega
      obtain ⟨x, hx1⟩ : ∃ x, xs[i]? = some x := ⟨xs[i], by simp [hlt]⟩
      have hxb := hxs x (List.mem_of_getElem? hx1)
      have kn := hF.blk hn (fun q => hgn gn (by simpa using q) rfl)
      have k1 : wr.cell? ⟨gn, i, none⟩ = some (.int .i64 x) := (cell_blk kn i).trans (by simp [hx1])
      have h1 := vbs_len (xs.take i) (fun y hy => (by have := (hxs y (List.mem_of_mem_take hy)).2; omega))
      have h1' : (xs.take i).length ≤ 100 := by simp; omega
      have h2 := vb_len9 x (by omega)
      go_wp2_with fail
      go_loopg [0, 6] x.toNat (fun gk s0 s6 wr => ∃ (m : Int) (lc : List UInt8), s6 = .int .i64 m ∧ 0 ≤ m ∧ m ≤ x ∧ gk = m.toNat ∧ RowAt 5 1 s0 (byRow lc) wr ∧ lc ++ vb m.toNat = l ++ vbs (xs.take i) ++ vb x.toNat ∧ Fr v.ownBlock.toList w wr ∧ (∀ g, s0.ownBlock = some g → v.ownBlock = some g ∨ w.heap.size ≤ g))
      case atStart => exact ⟨x, l ++ vbs (xs.take i), rfl, hxb.1, by omega, rfl, hR, rfl, hF, hO⟩
      case round =>
        clear hR hF hO k1 kn
        obtain ⟨m, lc, rfl, hm0, hmx, hgk, hR, hlc, hF, hO⟩ := hrel
        have hll : lc.length + (vb m.toNat).length ≤ 100000 + 900 + 9 := by
          have := congrArg List.length hlc
          simp only [List.length_append] at this
          omega
        have hpo := vb_pos m.toNat
        by_cases h128 : 128 ≤ m
        · have e1 : m.tmod 128 = m % 128 := by rw [Int.tmod_eq_emod_of_nonneg (by omega)]
          have e2 : m.tdiv 128 = m / 128 := by rw [Int.tdiv_eq_ediv_of_nonneg (by omega)]
          have hw : IntKind.u8.wrap (m % 128) = m % 128 := by rw [IntKind.wrap_u8]; omega
          have hw2 : IntKind.u8.wrap (m % 128 + 128) = m % 128 + 128 := by rw [IntKind.wrap_u8]; omega
          have hw3 : IntKind.i64.wrap (m / 128) = m / 128 := by rw [IntKind.wrap_i64]; omega
          have hS1 := src_of wr (x := m % 128 + 128) (by omega) (by omega)
          have g1 : wr.grownBy (wr.alloc (.cells #[.int .u8 (m % 128 + 128)] 5)) none := grown_alloc (grown_refl _) _
          have hR1 := hR.grown g1
          have hF1 := hF.grown g1 (by simp)
          go_wp2_with (at_builtin; refine wpList_row Tryz.underlying69 infoU8 rfl (by decide) rfl _ _ rfl u0 _ rfl hR1 _ _ rfl hS1 (byRow_one _) (byRow_cell _) (by unfold maxLen; simp only [byRow_len, List.length_cons, List.length_nil]; omega) (by simp only [byRow_len, List.length_cons, List.length_nil]; omega) ?_; intro v' w' hR' hg' hat)
          go_roundg (m / 128).toNat
          case measure => omega
          case rel =>
            rw [← byRow_append] at hR'
            refine ⟨m / 128, _, rfl, by omega, by omega, rfl, hR', ?_, hF1.grown hg' (fun k hk => (hO k hk).imp (fun q => by simpa using q) id), fun g hg => ?_⟩
            · have q1 : (m % 128 + 128).toNat = m.toNat % 128 + 128 := by omega
              have q2 : m.toNat / 128 = (m / 128).toNat := by omega
              rw [← hlc, vb_great (n := m.toNat) (by omega), q1, q2, List.append_assoc]; rfl
            · rcases hat with hat | hat
              · exact hO g (hat ▸ hg)
              · rw [hat] at hg
                cases hg
                have := hF1.size
                exact .inr this
        · have hw : IntKind.u8.wrap m = m := by rw [IntKind.wrap_u8]; omega
          have hS1 := src_of wr (x := m) (by omega) (by omega)
          have g1 : wr.grownBy (wr.alloc (.cells #[.int .u8 m] 5)) none := grown_alloc (grown_refl _) _
          have hR1 := hR.grown g1
          have hF1 := hF.grown g1 (by simp)
          go_wp2_with (at_builtin; refine wpList_row Tryz.underlying69 infoU8 rfl (by decide) rfl _ _ rfl u0 _ rfl hR1 _ _ rfl hS1 (byRow_one _) (byRow_cell _) (by unfold maxLen; simp only [byRow_len, List.length_cons, List.length_nil]; omega) (by simp only [byRow_len, List.length_cons, List.length_nil]; omega) ?_; intro v' w' hR' hg' hat)
          go_roundg (xs.length - (i + 1))
          case measure => omega
          case rel =>
            rw [← byRow_append] at hR'
            have e0 : lc ++ [UInt8.ofNat m.toNat] = l ++ vbs (xs.take (i + 1)) := by
              rw [vbs_take xs i x hx1, ← List.append_assoc, ← hlc, vb_small (n := m.toNat) (by omega)]
            rw [e0] at hR'
            refine ⟨i + 1, by go_num, by omega, rfl, hR', hF1.grown hg' (fun k hk => (hO k hk).imp (fun q => by simpa using q) id), fun g hg => ?_⟩
            rcases hat with hat | hat
            · exact hO g (hat ▸ hg)
            · rw [hat] at hg
              cases hg
              have := hF1.size
              exact .inr this
    · obtain rfl : i = xs.length := by omega
      rw [List.take_length] at hR
      go_wp2_with fail
      go_ret
      exact ⟨_, rfl, hR, hF, hO⟩

set_option maxRecDepth 100000 in
set_option maxHeartbeats 1000000 in
theorem sumP (g c : Nat) (l : List UInt8) (hl : l.length ≤ 1000000) (w : World) (hc : ∀ i b, l[i]? = some b → w.cell? ⟨g, i, none⟩ = some (.int .u8 (b.toNat : Int))) :
    Calls Tryz.prog 150 #[.slice (some ⟨g, 0, none⟩) l.length c] w fun e w' => e = .returned (.int .u32 (fsum l)) ∧ w' = w := by
  go_enter Tryz.func150, Tryz.ntmps150
  go_wp2_with fail
  go_loopg [3, 8] l.length (fun g s3 s8 wr => ∃ (i : Nat), s8 = .int .i64 i ∧ i ≤ l.length ∧ g = l.length - i ∧ s3 = .int .u32 (fsum (l.take i)) ∧ wr = w)
  case atStart => exact ⟨0, rfl, by omega, rfl, by simp [fsum], rfl⟩
  case round =>
    obtain ⟨i, rfl, hil, hgk, rfl, hw⟩ := hrel
    rw [hw]
    clear hw wr
    by_cases hlt : i < l.length
    · have hli : (i : Int) < (l.length : Int) := by omega
      obtain ⟨b, hb⟩ : ∃ b, l[i]? = some b := ⟨l[i], by simp [hlt]⟩
      have k1 := hc i b hb
      clear hc
      have hst := fsum_take l i b hb
      unfold fstep at hst
      have hbb : ((b.toNat : Int)) < 256 := by have := b.toNat_lt; omega
      have hwb : IntKind.u32.wrap (b.toNat : Int) = (b.toNat : Int) := by rw [IntKind.wrap_u32]; omega
      go_wp2_with fail
      go_roundg (l.length - (i + 1))
      case measure => omega
      case rel => exact ⟨i + 1, by go_num, by omega, rfl, by rw [hst, IntKind.wrap_u32], rfl⟩
    · obtain rfl : i = l.length := by omega
      rw [List.take_length]
      go_wp2_with fail
      go_ret
      exact ⟨rfl, rfl⟩

end Go.Proofs.YtachmkhbbbmioaaGreat

namespace Go.Proofs.YtachmkhbbbmioaaGreat
open Go.RowKit Go.Shelf

def byCells (l : List UInt8) : List Value := l.map fun b => .int .u8 (b.toNat : Int)
theorem byCells_at (l : List UInt8) (j : Nat) (u : Value) (h : (byCells l)[j]? = some u) : ∃ b, l[j]? = some b ∧ u = .int .u8 (b.toNat : Int) := by
  simp only [byCells, List.getElem?_map, Option.map_eq_some_iff] at h
  obtain ⟨b, h1, h2⟩ := h
  exact ⟨b, h1, h2.symm⟩

/-- APPEND of four bytes to a list, wherever it lies. -/
theorem wpList_four {w : World} {ops : Array Oper} {rest : List Oper} {o : Oper} {a : Act} {Q : Exit → Act → World → Prop} (hgd : o.guard = none) (s x : Operand)
    (ho : o.op = .call { callee := .builtin .append, args := #[s, x], argTypes := #[69, 69] }) (g n cap : Nat) (l : List UInt8) (hs : a.eval s = .slice (some ⟨g, 0, none⟩) n cap) (hl : l.length = n)
    (hcl : ∀ j b, l[j]? = some b → w.cell? ⟨g, j, none⟩ = some (.int .u8 (b.toNat : Int))) (hsp : n + 4 ≤ cap → ∀ j, j < 4 → (w.cell? ⟨g, n + j, none⟩).isSome = true ∧ w.frozen? ⟨g, n + j, none⟩ = false)
    (gx : Nat) (m : List UInt8) (hm : m.length = 4) (hx : a.eval x = .slice (some ⟨gx, 0, none⟩) 4 4) (hcx : ∀ j b, m[j]? = some b → w.cell? ⟨gx, j, none⟩ = some (.int .u8 (b.toNat : Int))) (hn : n ≤ 1000000)
    (h : ∀ g' c' w', (∀ j b, (l ++ m)[j]? = some b → w'.cell? ⟨g', j, none⟩ = some (.int .u8 (b.toNat : Int))) → w.grownBy w' (some g) → wpList Tryz.prog ops Q rest (a.put o.dst (.slice (some ⟨g', 0, none⟩) (n + 4) c')) w') : wpList Tryz.prog ops Q (o :: rest) a w := by
  obtain ⟨i, hi, hz0, hz1, hz2⟩ := info_parts infoU8
  have hnl : (byCells m).length = 4 * i.size := by rw [hz1]; simp [byCells, hm]
  have hnews : ∀ j u, (byCells m)[j]? = some u → w.cell? ((⟨gx, 0, none⟩ : Addr).add j) = some u := fun j u hj => by
    obtain ⟨b, h1, rfl⟩ := byCells_at m j u hj
    rw [Addr.add_lit, Nat.zero_add]; exact hcx j b h1
  have hone : ∀ u ∈ byCells m, u.oneCell' = true := fun u hu => by
    obtain ⟨b, -, rfl⟩ := List.mem_map.1 hu
    rfl
  refine wpList_plain hgd fun K hK => ?_
  unfold Oper.wp execOp
  by_cases hroom : n + 4 ≤ cap
  · have hsp' := hsp hroom
    have hlen4 : (byCells m).length = 4 := by simp [byCells, hm]
    have hr := run_append_room_cells (P := Tryz.prog) w 69 o.type 5 i Tryz.underlying69 hi g 0 n cap ⟨gx, 0, none⟩ 4 4 (byCells m) hnl hnews hone hroom (fun j hj => by rw [hz1, Nat.mul_one, Nat.zero_add]; exact (hsp' j (by omega)).1) (fun j hj => by rw [hz1, Nat.mul_one, Nat.zero_add]; exact (hsp' j (by omega)).2)
    rw [hz1, Nat.mul_one, Nat.zero_add] at hr
    simp only [ho, resolve, invoke, builtin, Sem.run_bind, Sem.run_pure, Result.andThen_ok, List.map_toArray, List.map_cons, List.map_nil, hs, hx, hr]
    refine hK _ _ (h g cap _ (fun j b hj => ?_) ⟨World.os_setCells _ _ _ _, ?_, World.output_setCells _ _ _ _, ?_, fun k hk hne => World.heap_setCells_other _ _ _ _ hk (fun q => hne (by rw [q]))⟩)
    · rw [List.getElem?_append] at hj
      split at hj
      · rename_i hlt
        rw [World.cell?_setCells_out]
        · exact hcl j b hj
        · intro _ _; left; show j < n; omega
      · rename_i hlt
        have hjm := (List.getElem?_eq_some_iff.1 hj).1
        have h1 := World.cell?_setCells_in g (byCells m) n w (fun j hj => (hsp' j (by omega)).1) (j - l.length) (by simp only [byCells, List.length_map]; exact hjm)
        have e : n + (j - l.length) = j := by omega
        rw [e] at h1
        rw [h1]
        have : m[j - l.length]? = some b := hj
        obtain ⟨h2, h3⟩ := List.getElem?_eq_some_iff.1 this
        simp [byCells, h3]
    · have h1 : ∀ (vs : List Value) (o : Nat) (w : World), (w.setCells g o vs).tape = w.tape := by
        intro vs
        induction vs with
        | nil => intro o w; rfl
        | cons v vs ih => intro o w; simp only [World.setCells]; rw [ih]; rfl
      exact h1 _ _ _
    · have h1 : ∀ (vs : List Value) (o : Nat) (w : World), (w.setCells g o vs).heap.size = w.heap.size := by
        intro vs
        induction vs with
        | nil => intro o w; rfl
        | cons v vs ih => intro o w; simp only [World.setCells]; rw [ih]; simp [World.setCell]
      rw [h1]; exact Nat.le_refl _
  · obtain ⟨v', w', hr, hown, hgw⟩ := run_append_arg_grows (P := Tryz.prog) w 69 o.type 5 i (.int .u8 0) 1 1 Tryz.underlying69 hi hz0 hz1 hz2 rfl (by decide) ⟨g, 0, none⟩ n cap (byCells l) (by simp [byCells, hl])
      (fun j u hj => by obtain ⟨b, h1, rfl⟩ := byCells_at l j u hj; rw [Addr.add_lit, Nat.zero_add]; exact hcl j b h1) ⟨gx, 0, none⟩ 4 4 (byCells m) (by simp [byCells, hm]) hnews (by omega) (by unfold maxLen; omega) (by omega)
    rcases hown.2 with ⟨-, h0⟩ | ⟨g', c', cur, rfl, -, hb, -, -, -, htk⟩
    · omega
    · simp only [ho, resolve, invoke, builtin, Sem.run_bind, Sem.run_pure, Result.andThen_ok, List.map_toArray, List.map_cons, List.map_nil, hs, hx, hr]
      refine hK _ _ (h g' c' w' (fun j b hj => ?_) ⟨hgw.os, hgw.tape, hgw.output, hgw.size, fun k hk _ => hgw.block k hk (by simp)⟩)
      rw [cell_blk hb j]
      have h1 : (byCells l ++ byCells m)[j]? = some (.int .u8 (b.toNat : Int)) := by
        have : byCells l ++ byCells m = byCells (l ++ m) := by simp [byCells]
        rw [this]; simp only [byCells, List.getElem?_map, hj, Option.map_some]
      rw [← htk, List.getElem?_take] at h1
      split at h1
      · rw [← Array.getElem?_toList]; exact h1
      · cases h1

theorem convL (w : World) (g c : Nat) (l : List UInt8) (n : Nat) (hn : l.length = n) (h : ∀ j b, l[j]? = some b → w.cell? ⟨g, j, none⟩ = some (.int .u8 (b.toNat : Int))) : (convert 69 9 (.slice (some ⟨g, 0, none⟩) n c)).run Tryz.prog w = .ok (str l) w := by
  subst hn
  refine run_convert_bytes_back w 69 9 5 ⟨g, 0, none⟩ c l Tryz.underlying69 Tryz.underlying5 Tryz.underlying9 (fun j hj => ?_)
  rw [Addr.add_lit, Nat.zero_add]
  exact h j _ (List.getElem?_eq_getElem hj)

set_option maxRecDepth 100000 in
set_option maxHeartbeats 2000000 in
theorem sealP (g cap : Nat) (l : List UInt8) (hl : l.length ≤ 1000000) (w : World) (hc : ∀ j b, l[j]? = some b → w.cell? ⟨g, j, none⟩ = some (.int .u8 (b.toNat : Int))) (hg : g < w.heap.size)
    (hsp : l.length + 4 ≤ cap → ∀ j, j < 4 → (w.cell? ⟨g, l.length + j, none⟩).isSome = true ∧ w.frozen? ⟨g, l.length + j, none⟩ = false) :
    Calls Tryz.prog 123 #[.slice (some ⟨g, 0, none⟩) l.length cap] w fun e w' => e = .returned (str (sealB l)) ∧ Fr [g] w w' := by
  have hS := hide (sumP g cap l hl w hc)
  obtain ⟨n, hn⟩ : ∃ n, l.length = n := ⟨_, rfl⟩
  have HN := hide hn
  rw [hn] at hS hl hsp ⊢
  clear hn
  go_enter Tryz.func123, Tryz.ntmps123
  go_wp2_with fail
  refine hS.out.mono ?_
  rintro e w1 ⟨rfl, hw1⟩
  rw [hw1]
  clear hw1 w1
  have g1 : w.grownBy (w.alloc (.cells #[.int .u8 (fsum l / 16777216 % 256), .int .u8 (fsum l / 65536 % 256), .int .u8 (fsum l / 256 % 256), .int .u8 (fsum l % 256)] 5)) none := grown_alloc (grown_refl _) _
  have k1 : (w.alloc (.cells #[.int .u8 (fsum l / 16777216 % 256), .int .u8 (fsum l / 65536 % 256), .int .u8 (fsum l / 256 % 256), .int .u8 (fsum l % 256)] 5)).heap[w.heap.size]? = some (.cells #[.int .u8 (fsum l / 16777216 % 256), .int .u8 (fsum l / 65536 % 256), .int .u8 (fsum l / 256 % 256), .int .u8 (fsum l % 256)] 5) := by rw [heap_alloc_at]; simp
  have hcx : ∀ j b, (sum4 l)[j]? = some b → (w.alloc (.cells #[.int .u8 (fsum l / 16777216 % 256), .int .u8 (fsum l / 65536 % 256), .int .u8 (fsum l / 256 % 256), .int .u8 (fsum l % 256)] 5)).cell? ⟨w.heap.size, j, none⟩ = some (.int .u8 (b.toNat : Int)) := by
    intro j b hj
    rw [cell_blk k1 j]
    match j, hj with
    | 0, hj => simp only [sum4, List.getElem?_cons_zero, Option.some.injEq] at hj; subst hj; rw [lob_nat]; rfl
    | 1, hj => simp only [sum4, List.getElem?_cons_succ, List.getElem?_cons_zero, Option.some.injEq] at hj; subst hj; rw [lob_nat]; rfl
    | 2, hj => simp only [sum4, List.getElem?_cons_succ, List.getElem?_cons_zero, Option.some.injEq] at hj; subst hj; rw [lob_nat]; rfl
    | 3, hj => simp only [sum4, List.getElem?_cons_succ, List.getElem?_cons_zero, Option.some.injEq] at hj; subst hj; rw [lob_nat]; rfl
    | j + 4, hj => simp [sum4] at hj
  have hcl : ∀ j b, l[j]? = some b → (w.alloc (.cells #[.int .u8 (fsum l / 16777216 % 256), .int .u8 (fsum l / 65536 % 256), .int .u8 (fsum l / 256 % 256), .int .u8 (fsum l % 256)] 5)).cell? ⟨g, j, none⟩ = some (.int .u8 (b.toNat : Int)) := fun j b hj => (World.cell?_of_block (g1.block g hg (by simp))).trans (hc j b hj)
  have hsp1 : n + 4 ≤ cap → ∀ j, j < 4 → ((w.alloc (.cells #[.int .u8 (fsum l / 16777216 % 256), .int .u8 (fsum l / 65536 % 256), .int .u8 (fsum l / 256 % 256), .int .u8 (fsum l % 256)] 5)).cell? ⟨g, n + j, none⟩).isSome = true ∧ (w.alloc (.cells #[.int .u8 (fsum l / 16777216 % 256), .int .u8 (fsum l / 65536 % 256), .int .u8 (fsum l / 256 % 256), .int .u8 (fsum l % 256)] 5)).frozen? ⟨g, n + j, none⟩ = false := fun q j hj => by
    rw [World.cell?_of_block (a := ⟨g, n + j, none⟩) (g1.block g hg (by simp)), World.frozen?_of_block (a := ⟨g, n + j, none⟩) (g1.block g hg (by simp))]
    exact hsp q j hj
  have HC := hide hcx
  have HL := hide hcl
  have HS := hide hsp1
  clear hcx hcl hsp1 hc hsp
  go_wp2_with (at_builtin; refine wpList_four rfl _ _ rfl g n cap l rfl HN.out HL.out HS.out w.heap.size (sum4 l) rfl rfl HC.out hl ?_; intro g' c' w' hcell hgw; have hcv := convL w' g' c' (sealB l) (n + 4) (by rw [seal_len, HN.out]) hcell)
  go_ret
  exact ⟨rfl, ((Fr.refl [g] w).grown g1 (by simp)).grown hgw (by simp)⟩

end Go.Proofs.YtachmkhbbbmioaaGreat

namespace Go.Proofs.YtachmkhbbbmioaaGreat
open Go.RowKit Go.Shelf

/-- A clock, as an array of eight. -/
def ckArr (q : Nat → Int) : Array Value := #[.int .i64 (q 0), .int .i64 (q 1), .int .i64 (q 2), .int .i64 (q 3), .int .i64 (q 4), .int .i64 (q 5), .int .i64 (q 6), .int .i64 (q 7)]
theorem ckArr_at (q : Nat → Int) : ∀ i, i < 8 → (ckArr q)[i]? = some (.int .i64 (q i))
  | 0, _ => rfl | 1, _ => rfl | 2, _ => rfl | 3, _ => rfl | 4, _ => rfl | 5, _ => rfl | 6, _ => rfl | 7, _ => rfl
  | _ + 8, h => by omega

theorem clk_take {n i : Nat} (q : Nat → Int) (h : i ≤ n) : (clk n q).take i = clk i q := by
  unfold clk
  rw [← List.map_take, List.take_range]
  congr 2
  omega

theorem clk_succ (i : Nat) (q : Nat → Int) : vbs (clk (i + 1) q) = vbs (clk i q) ++ vb (q i).toNat := by
  unfold clk
  rw [List.range_succ, List.map_append, vbs_append]
  simp [vbs]

set_option maxRecDepth 100000 in
set_option maxHeartbeats 4000000 in
theorem appClk (v : Value) (l : List UInt8) (n : Nat) (h8 : n ≤ 8) (q : Nat → Int) (hq : ∀ i, i < n → 0 ≤ q i ∧ q i ≤ 100) (w : World) (hv : RowAt 5 1 v (byRow l) w) (hl : l.length ≤ 90000) :
    Calls Tryz.prog 124 #[v, .int .i64 n, .agg (ckArr q)] w fun e w' => ∃ v', e = .returned v' ∧ RowAt 5 1 v' (byRow (l ++ vbs (clk n q))) w' ∧ Fr v.ownBlock.toList w w' ∧ (∀ g, v'.ownBlock = some g → v.ownBlock = some g ∨ w.heap.size ≤ g) := by
  go_enter Tryz.func124, Tryz.ntmps124
  have g1 : w.grownBy (w.alloc (.cells (ckArr q) 134)) none := grown_alloc (grown_refl _) _
  have k1 : (w.alloc (.cells (ckArr q) 134)).heap[w.heap.size]? = some (.cells (ckArr q) 134) := by rw [heap_alloc_at]; simp
  have hbv : ∀ g, v.ownBlock = some g → g ≠ w.heap.size := fun g hg => by have := hv.lt hg; omega
  unfold ckArr at g1 k1 ⊢
  go_upto_region 1 with fail
  generalize (w.alloc (.cells #[.int .i64 (q 0), .int .i64 (q 1), .int .i64 (q 2), .int .i64 (q 3), .int .i64 (q 4), .int .i64 (q 5), .int .i64 (q 6), .int .i64 (q 7)] 134)) = w1 at g1 k1 ⊢
  have hv1 := hv.grown g1
  have hF1 : Fr v.ownBlock.toList w w1 := (Fr.refl _ w).grown g1 (by simp)
  obtain ⟨bb, hbb⟩ : ∃ bb, w.heap.size = bb := ⟨_, rfl⟩
  rw [hbb] at k1 hbv ⊢
  have hbb1 : bb < w1.heap.size := lt_of_heap k1
  have k1' : w1.heap[bb]? = some (.cells (ckArr q) 134) := k1
  clear k1
  go_wp2_with fail
  go_loopg [0, 7] n (fun gk s0 s7 wr => ∃ (i : Nat), s7 = .int .i64 ((i : Int) + 1) ∧ i ≤ n ∧ gk = n - i ∧ RowAt 5 1 s0 (byRow (l ++ vbs (clk i q))) wr ∧ Fr v.ownBlock.toList w1 wr ∧ (∀ g, s0.ownBlock = some g → v.ownBlock = some g ∨ w1.heap.size ≤ g))
  case atStart => exact ⟨0, rfl, by omega, rfl, by simpa [vbs, clk] using hv1, Fr.refl _ _, fun g hg => .inl hg⟩
  case round =>
    obtain ⟨i, rfl, hil, hgk, hR, hF, hO⟩ := hrel
    by_cases hlt : i < n
    · have hli : (i : Int) + 1 ≤ (n : Int) := by omega
      have hqi := hq i hlt
      have kb := hF.blk k1' (fun p => hbv bb (by simpa using p) rfl)
      have hcell : wr.cell? ⟨bb, 0 + (((i : Int) + 1).toNat - 1), none⟩ = some (.int .i64 (q i)) := by
        have e : 0 + (((i : Int) + 1).toNat - 1) = i := by omega
        rw [e, cell_blk kb i]; exact ckArr_at q i (by omega)
      have hOf := hide (of_any bb 0 ((i : Int) + 1) (by omega) (by omega) (q i) wr hcell)
      have hll : (l ++ vbs (clk i q)).length ≤ 100000 := by
        have := vbs_len (clk i q) (fun y hy => by
          obtain ⟨j, hj, rfl⟩ := List.mem_map.1 hy
          have := hq j (by have := List.mem_range.1 hj; omega)
          omega)
        rw [clk_len] at this
        rw [List.length_append]; omega
      have g2 : wr.grownBy (wr.alloc (.cells #[.int .i64 (q i)] 2)) none := grown_alloc (grown_refl _) _
      have k2 : (wr.alloc (.cells #[.int .i64 (q i)] 2)).heap[wr.heap.size]? = some (.cells #[.int .i64 (q i)] 2) := by rw [heap_alloc_at]; simp
      have hAV := hide (fun (u : Value) (hu : RowAt 5 1 u (byRow (l ++ vbs (clk i q))) wr) => appVar u (l ++ vbs (clk i q)) [q i] wr.heap.size 1 (wr.alloc (.cells #[.int .i64 (q i)] 2)) (hu.grown g2) k2 (by intro y hy; simp at hy; subst hy; omega) hll (by simp))
      have HR := hide hR
      have hlt1 : ∀ g, v.ownBlock = some g → g < wr.heap.size := fun g hg => by have := hv1.lt hg; have := hF.size; omega
      clear hcell hR hll
      go_wp2_with fail
      refine hOf.out.mono ?_
      rintro e w2 ⟨rfl, hw2⟩
      rw [hw2]
      clear hw2 w2
      go_wp2_with fail
      refine (hAV.out _ HR.out).mono ?_
      rintro e w3 ⟨v3, rfl, hR3, hF3, hO3⟩
      rw [List.append_assoc, show vbs (clk i q) ++ vbs [q i] = vbs (clk (i + 1) q) by rw [clk_succ]; simp [vbs]] at hR3
      go_wp2_with fail
      go_roundg (n - (i + 1))
      case measure => omega
      case rel =>
        have hs := hF.size
        refine ⟨i + 1, by go_num, by omega, rfl, hR3, ?_, fun g hg => ?_⟩
        · have hF2 := hF.grown g2 (by simp)
          refine ⟨hF3.os.trans hF2.os, hF3.tape.trans hF2.tape, hF3.output.trans hF2.output, Nat.le_trans hF2.size hF3.size, fun k hk hn => (hF3.block k (Nat.lt_of_lt_of_le hk hF2.size) (fun p => ?_)).trans (hF2.block k hk hn)⟩
          rcases hO k (by simpa using p) with p | p
          · exact hn (by simpa using p)
          · omega
        · rcases hO3 g hg with p | p
          · exact hO g p
          · have := g2.size; exact .inr (by omega)
    · obtain rfl : i = n := by omega
      have hlf : ¬ (i : Int) + 1 ≤ (i : Int) := by omega
      go_wp2_with fail
      go_ret
      exact ⟨_, rfl, hR, hF1.trans hF, fun g hg => (hO g hg).imp id (fun p => by have := g1.size; omega)⟩

end Go.Proofs.YtachmkhbbbmioaaGreat

namespace Go.Proofs.YtachmkhbbbmioaaGreat
open Go.RowKit Go.Shelf

def intRow (xs : List Int) : List (List Value) := xs.map fun x => [.int .i64 x]
theorem intRow_len (xs : List Int) : (intRow xs).length = xs.length := by simp [intRow]
theorem intRow_at {xs : List Int} {i : Nat} {x : Int} (h : xs[i]? = some x) : (intRow xs)[i]? = some [.int .i64 x] := by simp [intRow, h]

set_option maxRecDepth 100000 in
set_option maxHeartbeats 1000000 in
theorem numbersR (xs : List Int) (hxs : ∀ x ∈ xs, 0 ≤ x ∧ x < 9223372036854775808) (hl : xs.length ≤ 1000) (v : Value) (w : World) (hv : RowAt 3 1 v (intRow xs) w) :
    Calls Tryz.prog 74 #[v] w fun e w' => e = .returned (str (vbs xs)) ∧ w.grownBy w' none := by
  obtain ⟨av, cv, rfl, hcv⟩ := hv.value
  rw [intRow_len] at hv hcv ⊢
  go_enter Tryz.func74, Tryz.ntmps74
  go_wp2_with fail
  go_loopg [3, 4] xs.length (fun g s3 s4 wr => ∃ (i : Nat), s4 = .int .i64 i ∧ i ≤ xs.length ∧ g = xs.length - i ∧ s3 = str (vbs (xs.take i)) ∧ w.grownBy wr none)
  case atStart => exact ⟨0, rfl, by omega, rfl, by simp [vbs], grown_refl _⟩
  case round =>
    obtain ⟨i, rfl, hil, hgk, rfl, hG⟩ := hrel
    by_cases hlt : i < xs.length
    · have hli : (i : Int) < (xs.length : Int) := by omega
      obtain ⟨x, hx⟩ : ∃ x, xs[i]? = some x := ⟨xs[i], by simp [hlt]⟩
      have hxb := hxs x (List.mem_of_getElem? hx)
      obtain ⟨g1, c1, cur1, hv1, -, hb1, hx1⟩ := (hv.grown hG).cell (i := i) (intRow_at hx)
      rw [intRow_len] at hv1
      cases hv1
      have k1 : wr.cell? ⟨g1, i, none⟩ = some (.int .i64 x) := (cell_blk hb1 _).trans (by simpa using hx1 0 _ rfl)
      have h1 := vbs_len (xs.take i) (fun y hy => (hxs y (List.mem_of_mem_take hy)).2)
      have h1' : (xs.take i).length ≤ 1000 := by simp; omega
      have h2 := vb_len9 x hxb.2
      have ha := fun w => sadd (vbs (xs.take i)) (vb x.toNat) (by omega) w
      rw [← vbs_take xs i x hx] at ha
      have hV := hide (varintR x hxb.1 hxb.2 wr)
      clear h1 h2 h1' hx1
      go_wp2_with fail
      refine hV.out.mono ?_
      rintro e w2 ⟨rfl, hg2⟩
      go_wp2_with fail
      go_roundg (xs.length - (i + 1))
      case measure => omega
      case rel => exact ⟨i + 1, by go_num, by omega, rfl, rfl, grown_trans hG hg2⟩
    · obtain rfl : i = xs.length := by omega
      rw [List.take_length]
      go_wp2_with fail
      go_ret
      exact ⟨rfl, hG⟩

theorem len_of {a b c : List UInt8} (h : a ++ b = c) : c.length = a.length + b.length := by rw [← h]; simp
theorem sadd' {a b c : List UInt8} (h : a ++ b = c) (hl : a.length + b.length ≤ 100000000) : ∀ w, (Op.stringOp .add ⟨a.toArray⟩ ⟨b.toArray⟩).run Tryz.prog w = .ok (str c) w := fun w => by rw [← h]; exact sadd a b hl w

theorem cell_of_grown {w w' : World} {a : Addr} {x : Value} (h : w.cell? a = some x) (g : w.grownBy w' none) : w'.cell? a = some x :=
  (World.cell?_of_block (g.block _ (lt_cellW h) (by simp))).trans h

/-- An operation without numbers below 0. -/
structure OpNn (x : OpR) : Prop where
  o : 0 ≤ x.o ∧ x.o < 9223372036854775808
  num : 0 ≤ x.num ∧ x.num < 9223372036854775808
  c : 0 ≤ x.c ∧ x.c < 9223372036854775808
  kind : 0 ≤ x.kind ∧ x.kind < 9223372036854775808
  tc : 0 ≤ x.tc ∧ x.tc < 9223372036854775808
  tk : 0 ≤ x.tk ∧ x.tk < 9223372036854775808
  r : 0 ≤ x.r ∧ x.r < 9223372036854775808
  q : ∀ i, i < 8 → 0 ≤ x.q i ∧ x.q i < 9223372036854775808

theorem OpOk.nn {n : Nat} (h8 : n ≤ 8) {x : OpR} (h : OpOk n x) : OpNn x := by
  obtain ⟨b0, b1, b2, b3, b4, b5, b6, b7⟩ := h
  exact ⟨by omega, by omega, by omega, by omega, by omega, by omega, by omega, fun i hi => by have := b7 i hi; omega⟩

set_option maxRecDepth 100000 in
set_option maxHeartbeats 4000000 in
theorem writeOpN (x : OpR) (n : Nat) (h8 : n ≤ 8) (hx : OpNn x) (vk : Value) (w : World) (hk : RowAt 3 1 vk (intRow (clk n x.q)) w) :
    Calls Tryz.prog 75 #[.agg #[.int .i64 x.o, .int .i64 x.num, .int .i64 x.c, .int .i64 x.kind, .int .i64 x.tc, .int .i64 x.tk, .int .i64 x.r, vk]] w fun e w' => e = .returned (str (x.bytes n)) ∧ w.grownBy w' none := by
  obtain ⟨b0, b1, b2, b3, b4, b5, b6, b7⟩ := hx
  obtain ⟨ak, ck, rfl, -⟩ := hk.value
  rw [intRow_len, clk_len] at hk ⊢
  go_enter Tryz.func75, Tryz.ntmps75
  go_upto_region 1 with fail
  have g1 : w.grownBy (w.alloc (.cells #[.int .i64 x.o, .int .i64 x.num, .int .i64 x.c, .int .i64 x.kind, .int .i64 x.tc, .int .i64 x.tk, .int .i64 x.r, Value.slice ak n ck] 88)) none := grown_alloc (grown_refl _) _
  have k1 : (w.alloc (.cells #[.int .i64 x.o, .int .i64 x.num, .int .i64 x.c, .int .i64 x.kind, .int .i64 x.tc, .int .i64 x.tk, .int .i64 x.r, Value.slice ak n ck] 88)).heap[w.heap.size]? = some (.cells #[.int .i64 x.o, .int .i64 x.num, .int .i64 x.c, .int .i64 x.kind, .int .i64 x.tc, .int .i64 x.tk, .int .i64 x.r, Value.slice ak n ck] 88) := by rw [heap_alloc_at]; simp
  generalize (w.alloc (.cells #[.int .i64 x.o, .int .i64 x.num, .int .i64 x.c, .int .i64 x.kind, .int .i64 x.tc, .int .i64 x.tk, .int .i64 x.r, Value.slice ak n ck] 88)) = w1 at g1 k1 ⊢
  generalize w.heap.size = bb at k1 ⊢
  have c0 : w1.cell? ⟨bb, 0, none⟩ = some (.int .i64 x.o) := cell_blk k1 0
  have c1 : w1.cell? ⟨bb, 1, none⟩ = some (.int .i64 x.num) := cell_blk k1 1
  have c2 : w1.cell? ⟨bb, 2, none⟩ = some (.int .i64 x.c) := cell_blk k1 2
  have c3 : w1.cell? ⟨bb, 3, none⟩ = some (.int .i64 x.kind) := cell_blk k1 3
  have c4 : w1.cell? ⟨bb, 4, none⟩ = some (.int .i64 x.tc) := cell_blk k1 4
  have c5 : w1.cell? ⟨bb, 5, none⟩ = some (.int .i64 x.tk) := cell_blk k1 5
  have l0 := vb_len9 x.o (by omega)
  have l1 := vb_len9 x.num (by omega)
  have l2 := vb_len9 x.c (by omega)
  have l3 := vb_len9 x.kind (by omega)
  have l4 := vb_len9 x.tc (by omega)
  have l5 := vb_len9 x.tk (by omega)
  obtain ⟨m1, e1⟩ : ∃ m, vb x.o.toNat ++ vb x.num.toNat = m := ⟨_, rfl⟩
  obtain ⟨m2, e2⟩ : ∃ m, m1 ++ vb x.c.toNat = m := ⟨_, rfl⟩
  obtain ⟨m3, e3⟩ : ∃ m, m2 ++ vb x.kind.toNat = m := ⟨_, rfl⟩
  obtain ⟨m4, e4⟩ : ∃ m, m3 ++ vb x.tc.toNat = m := ⟨_, rfl⟩
  obtain ⟨m5, e5⟩ : ∃ m, m4 ++ vb x.tk.toNat = m := ⟨_, rfl⟩
  have q1 := len_of e1
  have q2 := len_of e2
  have q3 := len_of e3
  have q4 := len_of e4
  have q5 := len_of e5
  have a1 := sadd' e1 (by omega)
  have a2 := sadd' e2 (by omega)
  have a3 := sadd' e3 (by omega)
  have a4 := sadd' e4 (by omega)
  have a5 := sadd' e5 (by omega)
  have E : Hid (m5 = vb x.o.toNat ++ vb x.num.toNat ++ vb x.c.toNat ++ vb x.kind.toNat ++ vb x.tc.toNat ++ vb x.tk.toNat ∧ m5.length ≤ 60) := ⟨by rw [e1, e2, e3, e4, e5], by omega⟩
  clear e1 e2 e3 e4 e5 q1 q2 q3 q4 q5 l0 l1 l2 l3 l4 l5
  have hV : ∀ (y : Int), y = x.o ∨ y = x.num ∨ y = x.c ∨ y = x.kind ∨ y = x.tc ∨ y = x.tk → ∀ W, w1.grownBy W none → Calls Tryz.prog 73 #[.int .i64 y] W fun e w' => e = .returned (str (vb y.toNat)) ∧ w1.grownBy w' none := fun y hy W hW => by
    refine (varintR y (by omega) (by omega) W).mono ?_
    rintro e w' ⟨rfl, hg⟩
    exact ⟨rfl, grown_trans hW hg⟩
  have HV := hide hV
  clear hV
  go_cut [3] (fun s3 wx => s3 = str m5 ∧ w1.grownBy wx none)
  case first =>
    go_region_held3 (fun w' => w'.cell? ⟨bb, 0, none⟩ = some (.int .i64 x.o) ∧ w'.cell? ⟨bb, 1, none⟩ = some (.int .i64 x.num) ∧ w'.cell? ⟨bb, 2, none⟩ = some (.int .i64 x.c) ∧ w'.cell? ⟨bb, 3, none⟩ = some (.int .i64 x.kind) ∧ w'.cell? ⟨bb, 4, none⟩ = some (.int .i64 x.tc) ∧ w'.cell? ⟨bb, 5, none⟩ = some (.int .i64 x.tk))
      (first | go_keep | exact ⟨cell_of_grown c0 hg, cell_of_grown c1 hg, cell_of_grown c2 hg, cell_of_grown c3 hg, cell_of_grown c4 hg, cell_of_grown c5 hg⟩)
      (first | (go_at_call 73; refine (HV.out _ (by simp) _ (by first | assumption | exact grown_drew (grown_refl _))).mono ?_; rintro e w' ⟨rfl, hg⟩))
    all_goals
      go_wp2_with fail
      go_meet
      exact ⟨rfl, by first | assumption | exact grown_drew (by assumption)⟩
  case rest =>
  obtain ⟨rfl, g2⟩ := hcut
  have hk2 := hk.grown (grown_trans g1 g2)
  have gA := grown_trans g1 g2
  have d3 := cell_of_grown c3 g2
  have d6 : wc.cell? ⟨bb, 6, none⟩ = some (.int .i64 x.r) := cell_of_grown (cell_blk k1 6) g2
  have d7 : wc.cell? ⟨bb, 7, none⟩ = some (.slice ak n ck) := cell_of_grown (cell_blk k1 7) g2
  clear c0 c1 c2 c3 c4 c5 a1 a2 a3 a4 a5 g1 g2 hk HV
  have hcq : ∀ y ∈ clk n x.q, 0 ≤ y ∧ y < 9223372036854775808 := fun y hy => by
    obtain ⟨i, hi, rfl⟩ := List.mem_map.1 hy
    have := b7 i (by have := List.mem_range.1 hi; omega)
    omega
  have lq := vbs_len (clk n x.q) (fun y hy => (hcq y hy).2)
  rw [clk_len] at lq
  have hN := fun (W : World) (hW : wc.grownBy W none) => numbersR (clk n x.q) hcq (by rw [clk_len]; omega) (.slice ak n ck) W (hk2.grown hW)
  obtain ⟨q, hq⟩ : ∃ q, vbs (clk n x.q) = q := ⟨_, rfl⟩
  have HB : Hid (x.bytes n = vbs x.nums ++ q) := by rw [← hq]; exact rfl
  rw [hq] at hN lq
  have HN := hide hN
  have HE := E
  have l6 := vb_len9 x.r (by omega)
  have m5l := HE.out.2
  clear hq hN E
  by_cases hk0 : x.kind = 0
  · obtain ⟨m6, e6⟩ : ∃ m, m5 ++ vb x.r.toNat = m := ⟨_, rfl⟩
    obtain ⟨m7, e7⟩ : ∃ m, m6 ++ q = m := ⟨_, rfl⟩
    have q6 := len_of e6
    have q7 := len_of e7
    have a6 := sadd' e6 (by omega)
    have a7 := sadd' e7 (by omega)
    have hV := hide (varintR x.r b6.1 (by omega) wc)
    have fin : x.bytes n = m7 := by
      rw [HB.out, ← e7, ← e6, HE.out.1]
      simp [OpR.nums, hk0, vbs]
    have HF := hide fin
    rw [hk0] at d3
    clear fin e6 e7 q6 q7 m5l l6 lq hk0
    go_wp2_with fail
    refine hV.out.mono ?_
    rintro e w3 ⟨rfl, g3⟩
    have f7 := cell_of_grown d7 g3
    go_wp2_with fail
    refine (HN.out _ g3).mono ?_
    rintro e w4 ⟨rfl, g4⟩
    go_wp2_with fail
    go_ret
    rw [HF.out]
    exact ⟨rfl, grown_trans gA (grown_trans g3 g4)⟩
  · have hkb : (x.kind == 0) = false := by simp [hk0]
    obtain ⟨m7, e7⟩ : ∃ m, m5 ++ q = m := ⟨_, rfl⟩
    have q7 := len_of e7
    have a7 := sadd' e7 (by omega)
    have fin : x.bytes n = m7 := by
      rw [HB.out, ← e7, HE.out.1]
      simp [OpR.nums, hk0, vbs]
    have HF := hide fin
    clear fin e7 q7 m5l l6 lq hk0
    go_wp2_with fail
    refine (HN.out _ (grown_refl _)).mono ?_
    rintro e w4 ⟨rfl, g4⟩
    go_wp2_with fail
    go_ret
    rw [HF.out]
    exact ⟨rfl, grown_trans gA g4⟩

theorem writeOpR (x : OpR) (n : Nat) (h8 : n ≤ 8) (hx : OpOk n x) (vk : Value) (w : World) (hk : RowAt 3 1 vk (intRow (clk n x.q)) w) :
    Calls Tryz.prog 75 #[.agg #[.int .i64 x.o, .int .i64 x.num, .int .i64 x.c, .int .i64 x.kind, .int .i64 x.tc, .int .i64 x.tk, .int .i64 x.r, vk]] w fun e w' => e = .returned (str (x.bytes n)) ∧ w.grownBy w' none := writeOpN x n h8 (hx.nn h8) vk w hk

end Go.Proofs.YtachmkhbbbmioaaGreat

namespace Go.Proofs.YtachmkhbbbmioaaGreat
open Go.RowKit Go.Shelf
attribute [local go_sem ↓] Go.wp_at_zero Go.wp_at_succ
attribute [local simp] entsAt_drew entsAt_setCell entsAt_alloc

/-- Is a mark that of an element, or the beginning? -/
def hasM (c k : Int) (L : List El) : Bool := decide (c = 0 ∧ k = 0) || L.any fun x => x.c == c && x.k == k

theorem chain_look {E : List Ent} {L : List El} (h : chain E L) {x : El} (hx : x ∈ L) : ∃ a b, look x.c x.k E = some (ev x.r x.d a b) := by
  obtain ⟨A, R, rfl⟩ := List.append_of_mem hx
  exact ⟨_, _, (chain_at h).1⟩

theorem look_cases {E : List Ent} {L : List El} (h : LineIs E L) (c k : Int) : (look c k E = none ∧ hasM c k L = false) ∨ ((∃ r d a b, look c k E = some (ev r d a b)) ∧ hasM c k L = true) := by
  by_cases hn : look c k E = none
  · refine .inl ⟨hn, ?_⟩
    unfold hasM
    rw [Bool.or_eq_false_iff]
    refine ⟨?_, ?_⟩
    · apply decide_eq_false
      rintro ⟨rfl, rfl⟩
      rw [h.begin] at hn
      cases hn
    · rw [List.any_eq_false]
      intro x hx q
      simp only [Bool.and_eq_true, beq_iff_eq] at q
      obtain ⟨a, b, e⟩ := chain_look h.chain hx
      rw [q.1, q.2, hn] at e
      cases e
  · refine .inr ?_
    rcases h.only c k hn with ⟨rfl, rfl⟩ | ⟨x, hx, rfl, rfl⟩
    · exact ⟨⟨_, _, _, _, h.begin⟩, by simp [hasM]⟩
    · obtain ⟨a, b, e⟩ := chain_look h.chain hx
      refine ⟨⟨_, _, _, _, e⟩, ?_⟩
      unfold hasM
      rw [Bool.or_eq_true]
      right
      rw [List.any_eq_true]
      exact ⟨x, hx, by simp⟩

set_option maxRecDepth 100000 in
set_option maxHeartbeats 2000000 in
theorem has_any (lb mb : Nat) (E : List Ent) (L : List El) (c k : Int) (w : World) (hl : Ln lb mb E w) (hL : LineIs E L) :
    Calls Tryz.prog 155 #[.pointer (some ⟨lb, 0, none⟩), .agg #[.int .i64 c, .int .i64 k]] w fun e w' => e = .returned (.bool (hasM c k L)) ∧ w.grownBy w' none := by
  obtain ⟨r, d, a, b, f, hlk, hf⟩ : ∃ r d a b f, (∀ w', entsAt w' mb E → (Instr.lookup 204 (.map (some mb)) (.agg #[.int .i64 c, .int .i64 k]) true).run Tryz.prog w' = .ok (.tuple #[.agg #[.int .i32 r, .bool d, .int .i64 a, .int .i64 b], .bool f]) w') ∧ hasM c k L = f := by
    have hlk := fun w' (h : entsAt w' mb E) => lookOk E w' mb h c k
    rcases look_cases hL c k with ⟨e, hf⟩ | ⟨⟨r, d, a, b, e⟩, hf⟩
    · rw [e] at hlk; exact ⟨_, _, _, _, _, hlk, hf⟩
    · rw [e] at hlk; exact ⟨_, _, _, _, _, hlk, hf⟩
  rw [hf]
  clear hf hL
  go_enter Tryz.func155, Tryz.ntmps155
  go_wp2_with fail
  have g1 : w.grownBy (w.alloc (.cells #[.int .i64 c, .int .i64 k] 152)) none := grown_alloc (grown_refl _) _
  have k3 : (w.alloc (.cells #[.int .i64 c, .int .i64 k] 152)).heap[w.heap.size]? = some (.cells #[.int .i64 c, .int .i64 k] 152) := by rw [heap_alloc_at]; simp
  generalize (w.alloc (.cells #[.int .i64 c, .int .i64 k] 152)) = w1 at g1 k3 ⊢
  have hl1 := hl.grown g1
  have c3 : w1.cell? ⟨lb, 0, none⟩ = some (.map (some mb)) := cell_blk hl1.line 0
  have c4 := hl1.ents
  have c5 : w1.cell? ⟨w.heap.size, 0, none⟩ = some (.int .i64 c) := cell_blk k3 0
  have c6 : w1.cell? ⟨w.heap.size, 1, none⟩ = some (.int .i64 k) := cell_blk k3 1
  have n1 := World.new_ne w1 _ c3
  have n2 := World.new_ne w1 _ c5
  go_cut [5, 6] (fun _ s6 wx => s6 = .bool f ∧ w1.grownBy wx none)
  case first =>
    go_region_held3 (fun w' => w'.cell? ⟨lb, 0, none⟩ = some (.map (some mb)) ∧ entsAt w' mb E ∧ w'.cell? ⟨w.heap.size, 0, none⟩ = some (.int .i64 c) ∧ w'.cell? ⟨w.heap.size, 1, none⟩ = some (.int .i64 k)) (go_keep) (fail)
    all_goals (go_wp2_with fail; go_meet)
    all_goals exact ⟨rfl, by repeat (first | exact grown_refl _ | refine grown_drew ?_ | refine grown_alloc ?_ _)⟩
  case rest =>
  obtain ⟨rfl, g2⟩ := hcut
  go_wp2_with fail
  go_ret
  exact ⟨rfl, grown_trans g1 g2⟩

theorem ckIndex (q : Nat → Int) (w : World) : ∀ i : Nat, i < 8 → (Instr.index 134 (.agg #[.int .i64 (q 0), .int .i64 (q 1), .int .i64 (q 2), .int .i64 (q 3), .int .i64 (q 4), .int .i64 (q 5), .int .i64 (q 6), .int .i64 (q 7)]) (.int .i64 (i : Int))).run Tryz.prog w = .ok (.int .i64 (q i)) w
  | 0, _ => by kernel_rfl
  | 1, _ => by kernel_rfl
  | 2, _ => by kernel_rfl
  | 3, _ => by kernel_rfl
  | 4, _ => by kernel_rfl
  | 5, _ => by kernel_rfl
  | 6, _ => by kernel_rfl
  | 7, _ => by kernel_rfl
  | _ + 8, h => by omega

/-- Is a clock within another one? -/
def CovR (cl q : Nat → Int) (w : World) (e : Ending) (w' : World) : Prop := ∃ b, e = .returned (.bool b) ∧ w.grownBy w' none ∧ (b = true ↔ ∀ i, i < 8 → q i ≤ cl i)

set_option maxRecDepth 100000 in
set_option maxHeartbeats 4000000 in
theorem covers_any (sb : Nat) (cl q : Nat → Int) (w : World) (hc : ∀ i, i < 8 → w.cell? ⟨sb, 2 + i, none⟩ = some (.int .i64 (cl i))) :
    Calls Tryz.prog 154 #[.pointer (some ⟨sb, 2, none⟩), .agg #[.int .i64 (q 0), .int .i64 (q 1), .int .i64 (q 2), .int .i64 (q 3), .int .i64 (q 4), .int .i64 (q 5), .int .i64 (q 6), .int .i64 (q 7)]] w fun e w' => CovR cl q w e w' := by
  have HC := hide hc
  clear hc
  go_enter Tryz.func154, Tryz.ntmps154
  go_wp2_with fail
  have g1 : w.grownBy (w.alloc (.cells #[.int .i64 (q 0), .int .i64 (q 1), .int .i64 (q 2), .int .i64 (q 3), .int .i64 (q 4), .int .i64 (q 5), .int .i64 (q 6), .int .i64 (q 7)] 134)) none := grown_alloc (grown_refl _) _
  generalize (w.alloc (.cells #[.int .i64 (q 0), .int .i64 (q 1), .int .i64 (q 2), .int .i64 (q 3), .int .i64 (q 4), .int .i64 (q 5), .int .i64 (q 6), .int .i64 (q 7)] 134)) = w1 at g1 ⊢
  go_loopg [8] 8 (fun gk s8 wr => ∃ i : Nat, s8 = .int .i64 i ∧ i ≤ 8 ∧ gk = 8 - i ∧ w1.grownBy wr none ∧ Hid (∀ j, j < i → q j ≤ cl j))
  case atStart => exact ⟨0, rfl, by omega, rfl, grown_refl _, hide (by intro j hj; omega)⟩
  case round =>
    obtain ⟨i, rfl, hil, hgk, hG, hso⟩ := hrel
    by_cases hlt : i < 8
    · have hli : (i : Int) < 8 := by omega
      have hix := fun w => ckIndex q w i hlt
      have hci : wr.cell? ⟨sb, 2 + i, none⟩ = some (.int .i64 (cl i)) := cell_of_grown (HC.out i hlt) (grown_trans g1 hG)
      by_cases hgt : cl i < q i
      · have HN : Hid (¬ ∀ i, i < 8 → q i ≤ cl i) := hide (fun z => by have := z i hlt; omega)
        go_wp2_with fail
        exact bodyPost_ret (v := .bool false) (by simp [results, Tryz.results154, go_sem]) rfl ⟨false, rfl, grown_trans g1 hG, by simpa using HN.out⟩
      · go_wp2_with fail
        go_roundg (8 - (i + 1))
        case measure => omega
        case rel =>
          refine ⟨i + 1, by go_num, by omega, rfl, hG, hide ?_⟩
          intro j hj
          by_cases e : j = i
          · subst e; omega
          · exact hso.out j (by omega)
    · have HQ : Hid (∀ j, j < 8 → q j ≤ cl j) := hide (fun j hj => hso.out j (by omega))
      go_wp2_with fail
      exact bodyPost_ret (v := .bool true) (by simp [results, Tryz.results154, go_sem]) rfl ⟨true, rfl, grown_trans g1 hG, by simpa using HQ.out⟩

end Go.Proofs.YtachmkhbbbmioaaGreat

namespace Go.Proofs.YtachmkhbbbmioaaGreat
open Go.RowKit Go.Shelf

/-- The element that an insert lays. -/
def OpR.el (x : OpR) (h : Sc x.r) : El := ⟨x.c, x.o, x.r, false, h⟩

def layAt (e : El) (tc tk : Int) : List El → List El
  | [] => []
  | y :: L => if y.c = tc ∧ y.k = tk then y :: behind e L else y :: layAt e tc tk L

def strikeAt (tc tk : Int) (L : List El) : List El := L.map fun y => if y.c = tc ∧ y.k = tk then gone y else y

instance decSc (r : Int) : Decidable (Sc r) := by unfold Sc; infer_instance

def applyL (x : OpR) (L : List El) : List El := if x.kind = 1 then strikeAt x.tc x.tk L else if h : Sc x.r then (if x.tc = 0 ∧ x.tk = 0 then behind (x.el h) L else layAt (x.el h) x.tc x.tk L) else L

/-- What a copy knows behind an operation that is applied. -/
def applyS (S : CS) (x : OpR) : CS := { S with cl := bump S.cl (x.o.toNat - 1), g := max S.g x.c, L := applyL x S.L, ops := x :: S.ops }

/-- P11. -/
def RdyS (S : CS) (x : OpR) : Prop := x.num = S.cl (x.o.toNat - 1) + 1 ∧ (∀ i, i < 8 → x.q i ≤ S.cl i) ∧ hasM x.tc x.tk S.L = true ∧ (x.kind = 1 ∨ hasM x.c x.o S.L = false)

theorem layAt_cut (e : El) {y : El} : ∀ {B R : List El}, (∀ z ∈ B, ¬ (z.c = y.c ∧ z.k = y.k)) → layAt e y.c y.k (B ++ y :: R) = B ++ y :: behind e R
  | [], R, _ => by simp [layAt]
  | z :: B, R, h => by
    have h1 := h z (by simp)
    rw [List.cons_append, layAt, if_neg h1, layAt_cut e (fun z hz => h z (by simp [hz]))]
    rfl

theorem strikeAt_out {tc tk : Int} {L : List El} (h : ∀ z ∈ L, ¬ (z.c = tc ∧ z.k = tk)) : strikeAt tc tk L = L := by
  unfold strikeAt
  conv => rhs; rw [← List.map_id L]
  apply List.map_congr_left
  intro z hz
  rw [if_neg (h z hz)]; rfl

theorem strikeAt_cut {y : El} {B R : List El} (h : Apart (B ++ y :: R)) : strikeAt y.c y.k (B ++ y :: R) = B ++ gone y :: R := by
  obtain ⟨h1, h2⟩ := apart_mem h
  have e1 := strikeAt_out (tc := y.c) (tk := y.k) h1
  have e2 := strikeAt_out (tc := y.c) (tk := y.k) (fun z hz q => h2 z hz ⟨q.1.symm, q.2.symm⟩)
  unfold strikeAt at e1 e2 ⊢
  rw [List.map_append, List.map_cons, e1, e2, if_pos ⟨rfl, rfl⟩]

theorem hasM_iff {c k : Int} {L : List El} : hasM c k L = true ↔ (c = 0 ∧ k = 0) ∨ ∃ y ∈ L, y.c = c ∧ y.k = k := by
  unfold hasM
  rw [Bool.or_eq_true, decide_eq_true_eq, List.any_eq_true]
  simp only [Bool.and_eq_true, beq_iff_eq]
theorem hasM_false {c k : Int} {L : List El} : hasM c k L = false ↔ ¬ (c = 0 ∧ k = 0) ∧ ∀ y ∈ L, ¬ (y.c = c ∧ y.k = k) := by
  rw [Bool.eq_false_iff, ne_eq, hasM_iff]
  constructor
  · intro h; exact ⟨fun q => h (.inl q), fun y hy q => h (.inr ⟨y, hy, q⟩)⟩
  · rintro ⟨h1, h2⟩ (q | ⟨y, hy, q⟩)
    · exact h1 q
    · exact h2 y hy q

theorem findI_has {c k : Int} {L : List El} : (0 ≤ findI c k L 0 ↔ ∃ y ∈ L, y.c = c ∧ y.k = k) := by
  have : ∀ (L : List El) (i : Nat), (0 ≤ findI c k L i ↔ ∃ y ∈ L, y.c = c ∧ y.k = k) := by
    intro L
    induction L with
    | nil => intro i; simp [findI]
    | cons y L ih =>
      intro i
      unfold findI
      by_cases q : y.c = c ∧ y.k = k
      · rw [if_pos q]; simp [q]
      · rw [if_neg q, ih]; simp [q]
  exact this L 0

/-- Where an insert is laid. -/
theorem cut_ins {n : Nat} {x : OpR} {L : List El} (h8 : Ok8 n x) (hk : x.kind = 0) (hm : hasM x.tc x.tk L = true) (h0 : ∀ y ∈ L, 0 < y.c) (ha : Apart L) :
    ∃ (A R : List El) (h : Sc x.r), L = A ++ R ∧ lc A = x.tc ∧ lk A = x.tk ∧ applyL x L = A ++ behind (x.el h) R ∧ findI x.tc x.tk L 0 = (A.length : Int) - 1 := by
  have hsc := h8.r hk
  have hk1 : ¬ x.kind = 1 := by omega
  by_cases ht : x.tc = 0 ∧ x.tk = 0
  · refine ⟨[], L, hsc, rfl, ht.1.symm, ht.2.symm, ?_, ?_⟩
    · unfold applyL; rw [if_neg hk1, dif_pos hsc, if_pos ht]; rfl
    · rw [ht.1, ht.2, findI_none _ _ _ _ (fun y hy q => by have := h0 y hy; omega)]; rfl
  · rcases hasM_iff.1 hm with q | ⟨y, hy, e1, e2⟩
    · exact (ht q).elim
    · obtain ⟨B, R, rfl⟩ := List.append_of_mem hy
      have eL : B ++ y :: R = (B ++ [y]) ++ R := by simp
      obtain ⟨l1, l2, -, -⟩ := last_snoc B y
      refine ⟨B ++ [y], R, hsc, eL, by rw [l1, e1], by rw [l2, e2], ?_, ?_⟩
      · unfold applyL
        rw [if_neg hk1, dif_pos hsc, if_neg ht, ← e1, ← e2, layAt_cut _ (apart_mem ha).1]
        simp
      · rw [← e1, ← e2, findI_mid ha]; simp

/-- What a delete strikes. -/
theorem cut_del {n : Nat} {x : OpR} {L : List El} (h8 : Ok8 n x) (hk : x.kind = 1) (hm : hasM x.tc x.tk L = true) (ha : Apart L) :
    ∃ (A R : List El) (y : El), L = A ++ y :: R ∧ y.c = x.tc ∧ y.k = x.tk ∧ applyL x L = A ++ gone y :: R ∧ findI x.tc x.tk L 0 = (A.length : Int) := by
  rcases hasM_iff.1 hm with q | ⟨y, hy, e1, e2⟩
  · rcases h8.tgt with t | t
    · omega
    · omega
  · obtain ⟨B, R, rfl⟩ := List.append_of_mem hy
    refine ⟨B, R, y, rfl, e1, e2, ?_, ?_⟩
    · unfold applyL; rw [if_pos hk, ← e1, ← e2, strikeAt_cut ha]
    · rw [← e1, ← e2, findI_mid ha]

/-- All that holds of what a copy knows. -/
structure Inv (S : CS) : Prop where
  good : Good S
  ops : OpsOk S
  wo : WtOk S
  len : (S.L.length : Int) ≤ sumcl S
  lops : (S.ops.length : Int) ≤ sumcl S
  apart : Apart S.L

theorem behind_len (e : El) : ∀ R : List El, (behind e R).length = R.length + 1
  | [] => rfl
  | y :: R => by unfold behind; split <;> simp [behind_len e R]

theorem behind_mem {e z : El} : ∀ {R : List El}, z ∈ behind e R ↔ z = e ∨ z ∈ R
  | [] => by simp [behind]
  | y :: R => by
    unfold behind
    split
    · rw [List.mem_cons, behind_mem, List.mem_cons]
      constructor
      · rintro (h | h | h) <;> simp [h]
      · rintro (h | h | h) <;> simp [h]
    · simp

theorem behind_apart {e : El} : ∀ {R : List El}, Apart R → (∀ y ∈ R, ¬ (y.c = e.c ∧ y.k = e.k)) → Apart (behind e R)
  | [], _, _ => by simp [behind, Apart]
  | y :: R, h, hf => by
    obtain ⟨h1, h2⟩ := List.pairwise_cons.1 h
    unfold behind
    split
    · refine List.pairwise_cons.2 ⟨fun z hz => ?_, behind_apart h2 (fun y hy => hf y (by simp [hy]))⟩
      rcases behind_mem.1 hz with rfl | hz
      · exact hf y (by simp)
      · exact h1 z hz
    · exact List.pairwise_cons.2 ⟨fun z hz q => hf z hz ⟨q.1.symm, q.2.symm⟩, h⟩

theorem apart_ins {A R : List El} {e : El} (h : Apart (A ++ R)) (hf : ∀ y ∈ A ++ R, ¬ (y.c = e.c ∧ y.k = e.k)) : Apart (A ++ behind e R) := by
  obtain ⟨h1, h2, h3⟩ := List.pairwise_append.1 h
  refine List.pairwise_append.2 ⟨h1, behind_apart h2 (fun y hy => hf y (by simp [hy])), fun a ha z hz => ?_⟩
  rcases behind_mem.1 hz with rfl | hz
  · exact hf a (by simp [ha])
  · exact h3 a ha z hz

theorem apart_gone {A R : List El} {y : El} (h : Apart (A ++ y :: R)) : Apart (A ++ gone y :: R) := by
  obtain ⟨h1, h2, h3⟩ := List.pairwise_append.1 h
  obtain ⟨h4, h5⟩ := List.pairwise_cons.1 h2
  refine List.pairwise_append.2 ⟨h1, List.pairwise_cons.2 ⟨h4, h5⟩, fun a ha z hz => ?_⟩
  rcases List.mem_cons.1 hz with rfl | hz
  · exact h3 a ha y (by simp)
  · exact h3 a ha z (by simp [hz])

/-- The line behind an operation that is ready. -/
structure LineOk (S : CS) (x : OpR) (L' : List El) : Prop where
  len : L'.length ≤ S.L.length + 1
  mem : ∀ z ∈ L', (0 < z.c ∧ z.c ≤ max S.g x.c) ∧ (1 ≤ z.k ∧ z.k ≤ S.n)
  apart : Apart L'

theorem line_apply {S : CS} (h : Inv S) {x : OpR} (h8 : Ok8 S.n x) (hr : RdyS S x) : LineOk S x (applyL x S.L) := by
  have h0 : ∀ y ∈ S.L, 0 < y.c := fun y hy => (h.good.mark y hy).1
  have ho := h8.o
  have hc := h8.c
  rcases (show x.kind = 0 ∨ x.kind = 1 by have := h8.kind; omega) with hk | hk
  · obtain ⟨A, R, hs, hL, -, -, e, -⟩ := cut_ins h8 hk hr.2.2.1 h0 h.apart
    have hf : ∀ y ∈ A ++ R, ¬ (y.c = (x.el hs).c ∧ y.k = (x.el hs).k) := by
      rw [← hL]
      rcases hr.2.2.2 with q | q
      · omega
      · exact (hasM_false.1 q).2
    rw [e]
    refine ⟨by rw [hL]; simp [behind_len]; omega, fun z hz => ?_, apart_ins (by rw [← hL]; exact h.apart) hf⟩
    rcases List.mem_append.1 hz with hz | hz
    · have hm : z ∈ S.L := by rw [hL]; simp [hz]
      have := h.good.mark z hm
      exact ⟨by omega, h.ops.mkk z hm⟩
    · rcases behind_mem.1 hz with rfl | hz
      · show (0 < x.c ∧ x.c ≤ _) ∧ (1 ≤ x.o ∧ x.o ≤ _)
        omega
      · have hm : z ∈ S.L := by rw [hL]; simp [hz]
        have := h.good.mark z hm
        exact ⟨by omega, h.ops.mkk z hm⟩
  · obtain ⟨A, R, y, hL, -, -, e, -⟩ := cut_del h8 hk hr.2.2.1 h.apart
    rw [e]
    refine ⟨by rw [hL]; simp, fun z hz => ?_, apart_gone (by rw [← hL]; exact h.apart)⟩
    have hm : ∃ z' ∈ S.L, z'.c = z.c ∧ z'.k = z.k := by
      rw [hL]
      rcases List.mem_append.1 hz with hz | hz
      · exact ⟨z, by simp [hz], rfl, rfl⟩
      · rcases List.mem_cons.1 hz with rfl | hz
        · exact ⟨y, by simp, rfl, rfl⟩
        · exact ⟨z, by simp [hz], rfl, rfl⟩
    obtain ⟨z', hz', e1, e2⟩ := hm
    have := h.good.mark z' hz'
    have := h.ops.mkk z' hz'
    rw [e1, e2] at *
    omega

theorem inv_apply {S : CS} (h : Inv S) {x : OpR} (h8 : Ok8 S.n x) (hr : RdyS S x) : Inv (applyS S x) := by
  have hl := line_apply h h8 hr
  have ho := h8.o
  have hn8 := h.good.n8
  have hc := h8.c
  have hnum := h8.num
  have hi : x.o.toNat - 1 < S.n := by omega
  have hcl := h.good.cl (x.o.toNat - 1) (by omega)
  have hsum : sumcl (applyS S x) = sumcl S + 1 := sum_bump S (max S.g x.c) (applyL x S.L) (x.o.toNat - 1) (by omega)
  have hlen := h.len
  have hlops := h.lops
  have h800 := sum_le h.good
  refine ⟨⟨h.good.s1, h.good.sn, h.good.n8, ?_, ?_, ?_, ?_, ?_⟩, ⟨?_, ?_, ?_, fun z hz => (hl.mem z hz).2⟩, ⟨h.wo.ok, h.wo.one, h.wo.len⟩, ?_, ?_, hl.apart⟩
  · have := h.good.g0; show 0 ≤ max S.g x.c; omega
  · have := h.good.g1; show max S.g x.c ≤ _; omega
  · intro i hi
    show 0 ≤ bump S.cl (x.o.toNat - 1) i ∧ bump S.cl (x.o.toNat - 1) i ≤ 100
    have h2 := h.good.cl i hi
    have h1 := hr.1
    by_cases q : i = x.o.toNat - 1
    · subst q; rw [bump_same]; omega
    · rw [bump_other _ q]; exact h2
  · show (vis (applyL x S.L)).length ≤ _
    have h1 : (vis (applyL x S.L)).length ≤ (applyL x S.L).length := List.length_filter_le _ _
    have h2 := hl.len
    omega
  · exact fun z hz => (hl.mem z hz).1
  · intro y hy
    show OpOk S.n y ∧ y.num ≤ bump S.cl (x.o.toNat - 1) (y.o.toNat - 1)
    rcases List.mem_cons.1 hy with rfl | hy
    · exact ⟨h8.ok hn8, by rw [bump_same]; have := hr.1; omega⟩
    · have h1 := h.ops.ok y hy
      refine ⟨h1.1, Int.le_trans h1.2 ?_⟩
      by_cases q : y.o.toNat - 1 = x.o.toNat - 1
      · rw [q, bump_same]; omega
      · rw [bump_other _ q]; exact Int.le_refl _
  · intro i hi' k h1 h2
    have h2' : k ≤ bump S.cl (x.o.toNat - 1) i := h2
    show ∃ y ∈ x :: S.ops, _
    by_cases q : i = x.o.toNat - 1
    · subst q
      rw [bump_same] at h2'
      by_cases e : k = S.cl (x.o.toNat - 1) + 1
      · exact ⟨x, by simp, by omega, by rw [hr.1, e]⟩
      · obtain ⟨y, hy, e1, e2⟩ := h.ops.all (x.o.toNat - 1) hi k h1 (by omega)
        exact ⟨y, by simp [hy], e1, e2⟩
    · rw [bump_other _ q] at h2'
      obtain ⟨y, hy, e1, e2⟩ := h.ops.all i hi' k h1 h2'
      exact ⟨y, by simp [hy], e1, e2⟩
  · refine List.pairwise_cons.2 ⟨fun y hy q => ?_, h.ops.one⟩
    have h1 := (h.ops.ok y hy).2
    rw [← q.1, ← q.2, hr.1] at h1
    omega
  · show ((applyL x S.L).length : Int) ≤ sumcl (applyS S x)
    have := hl.len; omega
  · show ((x :: S.ops).length : Int) ≤ sumcl (applyS S x)
    rw [List.length_cons]; omega

end Go.Proofs.YtachmkhbbbmioaaGreat

namespace Go.Proofs.YtachmkhbbbmioaaGreat
open Go.RowKit Go.Shelf

/-- The first of those that wait and are ready. -/
def IsNext (S : CS) (y : OpR) : Prop := y ∈ S.wt ∧ RdyS S y ∧ ∀ z ∈ S.wt, RdyS S z → y.o ≤ z.o
def NoNext (S : CS) : Prop := ∀ z ∈ S.wt, ¬ RdyS S z

theorem one_name {wt : List OpR} (h : wt.Pairwise (fun x y => ¬ (x.o = y.o ∧ x.num = y.num))) {x y : OpR} (hx : x ∈ wt) (hy : y ∈ wt) (e : x.o = y.o ∧ x.num = y.num) : x = y := by
  induction wt with
  | nil => cases hx
  | cons a l ih =>
    obtain ⟨h1, h2⟩ := List.pairwise_cons.1 h
    rcases List.mem_cons.1 hx with e1 | hx'
    · rcases List.mem_cons.1 hy with e2 | hy'
      · rw [e1, e2]
      · rw [e1] at e; exact (h1 y hy' e).elim
    · rcases List.mem_cons.1 hy with e2 | hy'
      · rw [e2] at e; exact (h1 x hx' ⟨e.1.symm, e.2.symm⟩).elim
      · exact ih h2 hx' hy'

theorem next_one {S : CS} (h : WtOk S) {x y : OpR} (hx : IsNext S x) (hy : IsNext S y) : x = y := by
  have e : x.o = y.o := Int.le_antisymm (hx.2.2 y hy.1 hy.2.1) (hy.2.2 x hx.1 hx.2.1)
  exact one_name h.one hx.1 hy.1 ⟨e, by rw [hx.2.1.1, hy.2.1.1, e]⟩

open Classical in
noncomputable def nextS (S : CS) : Option OpR := if h : ∃ y, IsNext S y then some h.choose else none

theorem nextS_some {S : CS} (h : WtOk S) {y : OpR} (hy : IsNext S y) : nextS S = some y := by
  unfold nextS
  rw [dif_pos ⟨y, hy⟩]
  exact congrArg some (next_one h (Exists.choose_spec ⟨y, hy⟩) hy)

theorem nextS_none {S : CS} (hn : NoNext S) : nextS S = none := by
  unfold nextS
  rw [dif_neg]
  rintro ⟨y, hy⟩
  exact hn y hy.1 hy.2.1

theorem nextS_is {S : CS} {y : OpR} (h : nextS S = some y) : IsNext S y := by
  unfold nextS at h
  split at h
  · rename_i hx
    cases h
    exact hx.choose_spec
  · cases h

def remW (x : OpR) (wt : List OpR) : List OpR := wt.filter (fun y => !(y.o == x.o && y.num == x.num))
def remS (S : CS) (x : OpR) : CS := { S with wt := remW x S.wt }

theorem remW_out {x : OpR} {wt : List OpR} (h : ∀ y ∈ wt, ¬ (x.o = y.o ∧ x.num = y.num)) : remW x wt = wt := by
  unfold remW
  apply List.filter_eq_self.2
  intro y hy
  have := h y hy
  simp only [Bool.not_eq_true', Bool.and_eq_false_iff, beq_eq_false_iff_ne]
  by_cases q : y.o = x.o
  · exact .inr (fun q2 => this ⟨q.symm, q2.symm⟩)
  · exact .inl q

theorem remW_cut {A B : List OpR} {x : OpR} (h : (A ++ x :: B).Pairwise (fun x y => ¬ (x.o = y.o ∧ x.num = y.num))) : remW x (A ++ x :: B) = A ++ B := by
  obtain ⟨h1, h2, h3⟩ := List.pairwise_append.1 h
  obtain ⟨h4, h5⟩ := List.pairwise_cons.1 h2
  have e1 : remW x A = A := remW_out (fun y hy q => h3 y hy x (by simp) ⟨q.1.symm, q.2.symm⟩)
  have e2 : remW x B = B := remW_out h4
  unfold remW at e1 e2 ⊢
  rw [List.filter_append, e1, List.filter_cons, if_neg (by simp), e2]

theorem rem_len {S : CS} (h : WtOk S) {x : OpR} (hx : x ∈ S.wt) : (remW x S.wt).length + 1 = S.wt.length := by
  obtain ⟨A, B, e⟩ := List.append_of_mem hx
  have h1 := h.one
  rw [e] at h1 ⊢
  rw [remW_cut h1]
  simp
  omega

theorem inv_rem {S : CS} (h : Inv S) (x : OpR) : Inv (remS S x) := by
  have hw : WtOk (remS S x) := ⟨fun y hy => h.wo.ok y (List.mem_filter.1 hy).1, h.wo.one.filter _, Nat.le_trans (List.length_filter_le _ _) h.wo.len⟩
  exact ⟨⟨h.good.s1, h.good.sn, h.good.n8, h.good.g0, h.good.g1, h.good.cl, h.good.len, h.good.mark⟩, ⟨h.ops.ok, h.ops.all, h.ops.one, h.ops.mkk⟩, hw, h.len, h.lops, h.apart⟩

/-- What waits is applied, as long as something of it is ready. -/
noncomputable def drainS : Nat → CS → CS
  | 0, S => S
  | f + 1, S => match nextS S with
    | none => S
    | some x => drainS f (applyS (remS S x) x)

theorem drain_stop {S : CS} (h : NoNext S) : ∀ f, drainS f S = S
  | 0 => rfl
  | f + 1 => by unfold drainS; rw [nextS_none h]

theorem drain_step {S : CS} (h : WtOk S) {x : OpR} (hx : IsNext S x) : drainS S.wt.length S = drainS (applyS (remS S x) x).wt.length (applyS (remS S x) x) := by
  have e : S.wt.length = (applyS (remS S x) x).wt.length + 1 := (rem_len h hx.1).symm
  rw [e]
  conv => lhs; unfold drainS
  rw [nextS_some h hx]

theorem inv_step {S : CS} (h : Inv S) {x : OpR} (hx : IsNext S x) : Inv (applyS (remS S x) x) := inv_apply (inv_rem h x) (h.wo.ok x hx.1) hx.2.1

theorem inv_drain : ∀ (f : Nat) {S : CS}, Inv S → Inv (drainS f S)
  | 0, S, h => h
  | f + 1, S, h => by
    unfold drainS
    cases hn : nextS S with
    | none => exact h
    | some x => exact inv_drain f (inv_step h (nextS_is hn))

theorem drain_n : ∀ (f : Nat) (S : CS), (drainS f S).n = S.n ∧ (drainS f S).s = S.s
  | 0, S => ⟨rfl, rfl⟩
  | f + 1, S => by
    unfold drainS
    cases hn : nextS S with
    | none => exact ⟨rfl, rfl⟩
    | some x => exact drain_n f _

def knownS (S : CS) (x : OpR) : Prop := (∃ y ∈ S.wt, y.o = x.o ∧ y.num = x.num) ∨ x.num ≤ S.cl (x.o.toNat - 1)

def waitS (S : CS) (x : OpR) : CS := { S with wt := S.wt ++ [x] }

open Classical in
/-- P10: an operation that is told. -/
noncomputable def takesS (S : CS) (x : OpR) : CS :=
  if knownS S x then S else if RdyS S x then drainS S.wt.length (applyS S x) else if S.wt.length < 16 then waitS S x else S

theorem inv_wait {S : CS} (h : Inv S) {x : OpR} (h8 : Ok8 S.n x) (hk : ¬ knownS S x) (hl : S.wt.length < 16) : Inv (waitS S x) := by
  have hw : WtOk (waitS S x) := by
    refine ⟨fun y hy => ?_, ?_, ?_⟩
    · rcases List.mem_append.1 hy with hy | hy
      · exact h.wo.ok y hy
      · rw [List.mem_singleton.1 hy]; exact h8
    · refine List.pairwise_append.2 ⟨h.wo.one, List.pairwise_singleton _ _, fun a ha b hb q => ?_⟩
      rw [List.mem_singleton.1 hb] at q
      exact hk (.inl ⟨a, ha, q⟩)
    · show (S.wt ++ [x]).length ≤ 16
      simp; omega
  exact ⟨⟨h.good.s1, h.good.sn, h.good.n8, h.good.g0, h.good.g1, h.good.cl, h.good.len, h.good.mark⟩, ⟨h.ops.ok, h.ops.all, h.ops.one, h.ops.mkk⟩, hw, h.len, h.lops, h.apart⟩

theorem inv_takes {S : CS} (h : Inv S) {x : OpR} (h8 : Ok8 S.n x) : Inv (takesS S x) := by
  unfold takesS
  split
  · exact h
  · rename_i hk
    split
    · rename_i hr; exact inv_drain _ (inv_apply h h8 hr)
    · split
      · rename_i hl; exact inv_wait h h8 hk hl
      · exact h

theorem takes_n (S : CS) (x : OpR) : (takesS S x).n = S.n ∧ (takesS S x).s = S.s := by
  unfold takesS
  split
  · exact ⟨rfl, rfl⟩
  · split
    · exact drain_n _ _
    · split <;> exact ⟨rfl, rfl⟩

noncomputable def takesAll (S : CS) (l : List OpR) : CS := l.foldl takesS S

theorem takesAll_take (S : CS) (l : List OpR) (i : Nat) {x : OpR} (h : l[i]? = some x) : takesAll S (l.take (i + 1)) = takesS (takesAll S (l.take i)) x := by
  unfold takesAll
  rw [List.take_add_one, h, List.foldl_append]; rfl

theorem takesAll_n (S : CS) : ∀ l : List OpR, (takesAll S l).n = S.n ∧ (takesAll S l).s = S.s := by
  intro l
  induction l generalizing S with
  | nil => exact ⟨rfl, rfl⟩
  | cons x l ih =>
    have h1 := ih (takesS S x)
    have h2 := takes_n S x
    exact ⟨h1.1.trans h2.1, h1.2.trans h2.2⟩

theorem inv_takesAll : ∀ (l : List OpR) {S : CS}, Inv S → (∀ x ∈ l, Ok8 S.n x) → Inv (takesAll S l)
  | [], S, h, _ => h
  | x :: l, S, h, hl => inv_takesAll l (inv_takes h (hl x (by simp))) (fun y hy => by rw [(takes_n S x).1]; exact hl y (by simp [hy]))

end Go.Proofs.YtachmkhbbbmioaaGreat

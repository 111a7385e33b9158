import Derived.Test.YtachmkhbbbmioaaGreatRowPX
import Derived.Test.YtachmkhbbbmioaaGreatRefVX
import Derived.ArgAppend
import Derived.Deep.Upon
import Derived.Test.YtachmkhbbbmioaaGreatRefEX
import Derived.Test.YtachmkhbbbmioaaGreatRefFX
namespace Go.Proofs.YtachmkhbbbmioaaGreat
open Go.RowKit Go.Shelf

theorem infoU8 : (Tryz.prog.info? 5).map (fun i => (i.zero, i.size, i.bytes)) = some (some (.int .u8 0), 1, 1) := by kernel_rfl

theorem by_of {x : Int} (h0 : 0 ≤ x) (h1 : x < 256) : byRow [UInt8.ofNat x.toNat] = [[.int .u8 x]] := by
  have e : ((UInt8.ofNat x.toNat).toNat : Int) = x := by
    have : (UInt8.ofNat x.toNat).toNat = x.toNat := by simp; omega
    omega
  simp only [byRow, List.map_cons, List.map_nil, e]

theorem src_of (w : World) {x : Int} (h0 : 0 ≤ x) (h1 : x < 256) : SrcAt (w.alloc (.cells #[.int .u8 x] 5)) (.slice (some ⟨w.heap.size, 0, none⟩) 1 1) (byRow [UInt8.ofNat x.toNat]) := by
  rw [by_of h0 h1]
  refine .inr ⟨_, _, rfl, fun j y hj => ?_⟩
  have hk : (w.alloc (.cells #[.int .u8 x] 5)).heap[w.heap.size]? = some (.cells #[.int .u8 x] 5) := by rw [heap_alloc_at]; simp
  rw [Addr.add_lit, Nat.zero_add, cell_blk hk j]
  simpa using hj

set_option maxRecDepth 100000 in
set_option maxHeartbeats 4000000 in
theorem appVar (v : Value) (l : List UInt8) (xs : List Int) (gn c : Nat) (w : World) (hv : RowAt 5 1 v (byRow l) w) (hn : w.heap[gn]? = some (.cells (xs.map (Value.int .i64)).toArray 2)) (hxs : ∀ x ∈ xs, 0 ≤ x ∧ x < 4611686018427387904) (hl : l.length ≤ 100000) (hx : xs.length ≤ 100) :
    Calls Tryz.prog 122 #[v, .slice (some ⟨gn, 0, none⟩) xs.length c] w fun e w' => ∃ v', e = .returned v' ∧ RowAt 5 1 v' (byRow (l ++ vbs xs)) w' ∧ Fr v.ownBlock.toList w w' ∧ (∀ g, v'.ownBlock = some g → v.ownBlock = some g ∨ w.heap.size ≤ g) := by
  have hgn : ∀ g, v.ownBlock = some g → g ≠ gn := fun g hg q => by
    obtain ⟨cur, hb⟩ := hv.blk hg
    rw [q, hn] at hb
    cases hb
  go_enter Tryz.func122, Tryz.ntmps122
  go_wp2_with fail
  go_loopg [0, 9] xs.length (fun gk s0 s9 wr => ∃ (i : Nat), s9 = .int .i64 i ∧ i ≤ xs.length ∧ gk = xs.length - i ∧ RowAt 5 1 s0 (byRow (l ++ vbs (xs.take i))) wr ∧ Fr v.ownBlock.toList w wr ∧ (∀ g, s0.ownBlock = some g → v.ownBlock = some g ∨ w.heap.size ≤ g))
  case atStart => exact ⟨0, rfl, by omega, rfl, by simpa [vbs] using hv, Fr.refl _ _, fun g hg => .inl hg⟩
  case round =>
    obtain ⟨i, rfl, hil, hgk0, hR, hF, hO⟩ := hrel
    by_cases hlt : i < xs.length
    · have hli : (i : Int) < (xs.length : Int) := by omega
      obtain ⟨x, hx1⟩ : ∃ x, xs[i]? = some x := ⟨xs[i], by simp [hlt]⟩
      have hxb := hxs x (List.mem_of_getElem? hx1)
      have kn := hF.blk hn (fun q => hgn gn (by simpa using q) rfl)
      have k1 : wr.cell? ⟨gn, i, none⟩ = some (.int .i64 x) := (cell_blk kn i).trans (by simp [hx1])
      have h1 := vbs_len (xs.take i) (fun y hy => (by have := (hxs y (List.mem_of_mem_take hy)).2; omega))
      have h1' : (xs.take i).length ≤ 100 := by simp; omega
      have h2 := vb_len9 x (by omega)
      go_wp2_with fail
      go_loopg [0, 6] x.toNat (fun gk s0 s6 wr => ∃ (m : Int) (lc : List UInt8), s6 = .int .i64 m ∧ 0 ≤ m ∧ m ≤ x ∧ gk = m.toNat ∧ RowAt 5 1 s0 (byRow lc) wr ∧ lc ++ vb m.toNat = l ++ vbs (xs.take i) ++ vb x.toNat ∧ Fr v.ownBlock.toList w wr ∧ (∀ g, s0.ownBlock = some g → v.ownBlock = some g ∨ w.heap.size ≤ g))
      case atStart => exact ⟨x, l ++ vbs (xs.take i), rfl, hxb.1, by omega, rfl, hR, rfl, hF, hO⟩
      case round =>
        clear hR hF hO k1 kn
        obtain ⟨m, lc, rfl, hm0, hmx, hgk, hR, hlc, hF, hO⟩ := hrel
        have hll : lc.length + (vb m.toNat).length ≤ 100000 + 900 + 9 := by
          have := congrArg List.length hlc
          simp only [List.length_append] at this
          omega
        have hpo := vb_pos m.toNat
        by_cases h128 : 128 ≤ m
        · have e1 : m.tmod 128 = m % 128 := by rw [Int.tmod_eq_emod_of_nonneg (by omega)]
          have e2 : m.tdiv 128 = m / 128 := by rw [Int.tdiv_eq_ediv_of_nonneg (by omega)]
          have hw : IntKind.u8.wrap (m % 128) = m % 128 := by rw [IntKind.wrap_u8]; omega
          have hw2 : IntKind.u8.wrap (m % 128 + 128) = m % 128 + 128 := by rw [IntKind.wrap_u8]; omega
          have hw3 : IntKind.i64.wrap (m / 128) = m / 128 := by rw [IntKind.wrap_i64]; omega
          have hS1 := src_of wr (x := m % 128 + 128) (by omega) (by omega)
          have g1 : wr.grownBy (wr.alloc (.cells #[.int .u8 (m % 128 + 128)] 5)) none := grown_alloc (grown_refl _) _
          have hR1 := hR.grown g1
          have hF1 := hF.grown g1 (by simp)
          go_wp2_with (at_builtin; refine wpList_row Tryz.underlying69 infoU8 rfl (by decide) rfl _ _ rfl u0 _ rfl hR1 _ _ rfl hS1 (byRow_one _) (byRow_cell _) (by unfold maxLen; simp only [byRow_len, List.length_cons, List.length_nil]; omega) (by simp only [byRow_len, List.length_cons, List.length_nil]; omega) ?_; intro v' w' hR' hg' hat)
          go_roundg (m / 128).toNat
          case measure => omega
          case rel =>
            rw [← byRow_append] at hR'
            refine ⟨m / 128, _, rfl, by omega, by omega, rfl, hR', ?_, hF1.grown hg' (fun k hk => (hO k hk).imp (fun q => by simpa using q) id), fun g hg => ?_⟩
            · have q1 : (m % 128 + 128).toNat = m.toNat % 128 + 128 := by omega
              have q2 : m.toNat / 128 = (m / 128).toNat := by omega
              rw [← hlc, vb_great (n := m.toNat) (by omega), q1, q2, List.append_assoc]; rfl
            · rcases hat with hat | hat
              · exact hO g (hat ▸ hg)
              · rw [hat] at hg
                cases hg
                have := hF1.size
                exact .inr this
        · have hw : IntKind.u8.wrap m = m := by rw [IntKind.wrap_u8]; omega
          have hS1 := src_of wr (x := m) (by omega) (by omega)
          have g1 : wr.grownBy (wr.alloc (.cells #[.int .u8 m] 5)) none := grown_alloc (grown_refl _) _
          have hR1 := hR.grown g1
          have hF1 := hF.grown g1 (by simp)
          go_wp2_with (at_builtin; refine wpList_row Tryz.underlying69 infoU8 rfl (by decide) rfl _ _ rfl u0 _ rfl hR1 _ _ rfl hS1 (byRow_one _) (byRow_cell _) (by unfold maxLen; simp only [byRow_len, List.length_cons, List.length_nil]; omega) (by simp only [byRow_len, List.length_cons, List.length_nil]; omega) ?_; intro v' w' hR' hg' hat)
          go_roundg (xs.length - (i + 1))
          case measure => omega
          case rel =>
            rw [← byRow_append] at hR'
            have e0 : lc ++ [UInt8.ofNat m.toNat] = l ++ vbs (xs.take (i + 1)) := by
              rw [vbs_take xs i x hx1, ← List.append_assoc, ← hlc, vb_small (n := m.toNat) (by omega)]
            rw [e0] at hR'
            refine ⟨i + 1, by go_num, by omega, rfl, hR', hF1.grown hg' (fun k hk => (hO k hk).imp (fun q => by simpa using q) id), fun g hg => ?_⟩
            rcases hat with hat | hat
            · exact hO g (hat ▸ hg)
            · rw [hat] at hg
              cases hg
              have := hF1.size
              exact .inr this
    · obtain rfl : i = xs.length := by omega
      rw [List.take_length] at hR
      go_wp2_with fail
      go_ret
      exact ⟨_, rfl, hR, hF, hO⟩

set_option maxRecDepth 100000 in
set_option maxHeartbeats 1000000 in
theorem sumP (g c : Nat) (l : List UInt8) (hl : l.length ≤ 1000000) (w : World) (hc : ∀ i b, l[i]? = some b → w.cell? ⟨g, i, none⟩ = some (.int .u8 (b.toNat : Int))) :
    Calls Tryz.prog 150 #[.slice (some ⟨g, 0, none⟩) l.length c] w fun e w' => e = .returned (.int .u32 (fsum l)) ∧ w' = w := by
  go_enter Tryz.func150, Tryz.ntmps150
  go_wp2_with fail
  go_loopg [3, 8] l.length (fun g s3 s8 wr => ∃ (i : Nat), s8 = .int .i64 i ∧ i ≤ l.length ∧ g = l.length - i ∧ s3 = .int .u32 (fsum (l.take i)) ∧ wr = w)
  case atStart => exact ⟨0, rfl, by omega, rfl, by simp [fsum], rfl⟩
  case round =>
    obtain ⟨i, rfl, hil, hgk, rfl, hw⟩ := hrel
    rw [hw]
    clear hw wr
    by_cases hlt : i < l.length
    · have hli : (i : Int) < (l.length : Int) := by omega
      obtain ⟨b, hb⟩ : ∃ b, l[i]? = some b := ⟨l[i], by simp [hlt]⟩
      have k1 := hc i b hb
      clear hc
      have hst := fsum_take l i b hb
      unfold fstep at hst
      have hbb : ((b.toNat : Int)) < 256 := by have := b.toNat_lt; omega
      have hwb : IntKind.u32.wrap (b.toNat : Int) = (b.toNat : Int) := by rw [IntKind.wrap_u32]; omega
      go_wp2_with fail
      go_roundg (l.length - (i + 1))
      case measure => omega
      case rel => exact ⟨i + 1, by go_num, by omega, rfl, by rw [hst, IntKind.wrap_u32], rfl⟩
    · obtain rfl : i = l.length := by omega
      rw [List.take_length]
      go_wp2_with fail
      go_ret
      exact ⟨rfl, rfl⟩

end Go.Proofs.YtachmkhbbbmioaaGreat

namespace Go.Proofs.YtachmkhbbbmioaaGreat
open Go.RowKit Go.Shelf

def byCells (l : List UInt8) : List Value := l.map fun b => .int .u8 (b.toNat : Int)
theorem byCells_at (l : List UInt8) (j : Nat) (u : Value) (h : (byCells l)[j]? = some u) : ∃ b, l[j]? = some b ∧ u = .int .u8 (b.toNat : Int) := by
  simp only [byCells, List.getElem?_map, Option.map_eq_some_iff] at h
  obtain ⟨b, h1, h2⟩ := h
  exact ⟨b, h1, h2.symm⟩

/-- APPEND of four bytes to a list, wherever it lies. -/
theorem wpList_four {w : World} {ops : Array Oper} {rest : List Oper} {o : Oper} {a : Act} {Q : Exit → Act → World → Prop} (hgd : o.guard = none) (s x : Operand)
    (ho : o.op = .call { callee := .builtin .append, args := #[s, x], argTypes := #[69, 69] }) (g n cap : Nat) (l : List UInt8) (hs : a.eval s = .slice (some ⟨g, 0, none⟩) n cap) (hl : l.length = n)
    (hcl : ∀ j b, l[j]? = some b → w.cell? ⟨g, j, none⟩ = some (.int .u8 (b.toNat : Int))) (hsp : n + 4 ≤ cap → ∀ j, j < 4 → (w.cell? ⟨g, n + j, none⟩).isSome = true ∧ w.frozen? ⟨g, n + j, none⟩ = false)
    (gx : Nat) (m : List UInt8) (hm : m.length = 4) (hx : a.eval x = .slice (some ⟨gx, 0, none⟩) 4 4) (hcx : ∀ j b, m[j]? = some b → w.cell? ⟨gx, j, none⟩ = some (.int .u8 (b.toNat : Int))) (hn : n ≤ 1000000)
    (h : ∀ g' c' w', (∀ j b, (l ++ m)[j]? = some b → w'.cell? ⟨g', j, none⟩ = some (.int .u8 (b.toNat : Int))) → w.grownBy w' (some g) → wpList Tryz.prog ops Q rest (a.put o.dst (.slice (some ⟨g', 0, none⟩) (n + 4) c')) w') : wpList Tryz.prog ops Q (o :: rest) a w := by
  obtain ⟨i, hi, hz0, hz1, hz2⟩ := info_parts infoU8
  have hnl : (byCells m).length = 4 * i.size := by rw [hz1]; simp [byCells, hm]
  have hnews : ∀ j u, (byCells m)[j]? = some u → w.cell? ((⟨gx, 0, none⟩ : Addr).add j) = some u := fun j u hj => by
    obtain ⟨b, h1, rfl⟩ := byCells_at m j u hj
    rw [Addr.add_lit, Nat.zero_add]; exact hcx j b h1
  have hone : ∀ u ∈ byCells m, u.oneCell' = true := fun u hu => by
    obtain ⟨b, -, rfl⟩ := List.mem_map.1 hu
    rfl
  refine wpList_plain hgd fun K hK => ?_
  unfold Oper.wp execOp
  by_cases hroom : n + 4 ≤ cap
  · have hsp' := hsp hroom
    have hlen4 : (byCells m).length = 4 := by simp [byCells, hm]
    have hr := run_append_room_cells (P := Tryz.prog) w 69 o.type 5 i Tryz.underlying69 hi g 0 n cap ⟨gx, 0, none⟩ 4 4 (byCells m) hnl hnews hone hroom (fun j hj => by rw [hz1, Nat.mul_one, Nat.zero_add]; exact (hsp' j (by omega)).1) (fun j hj => by rw [hz1, Nat.mul_one, Nat.zero_add]; exact (hsp' j (by omega)).2)
    rw [hz1, Nat.mul_one, Nat.zero_add] at hr
    simp only [ho, resolve, invoke, builtin, Sem.run_bind, Sem.run_pure, Result.andThen_ok, List.map_toArray, List.map_cons, List.map_nil, hs, hx, hr]
    refine hK _ _ (h g cap _ (fun j b hj => ?_) ⟨World.os_setCells _ _ _ _, ?_, World.output_setCells _ _ _ _, ?_, fun k hk hne => World.heap_setCells_other _ _ _ _ hk (fun q => hne (by rw [q]))⟩)
    · rw [List.getElem?_append] at hj
      split at hj
      · rename_i hlt
        rw [World.cell?_setCells_out]
        · exact hcl j b hj
        · intro _ _; left; show j < n; omega
      · rename_i hlt
        have hjm := (List.getElem?_eq_some_iff.1 hj).1
        have h1 := World.cell?_setCells_in g (byCells m) n w (fun j hj => (hsp' j (by omega)).1) (j - l.length) (by simp only [byCells, List.length_map]; exact hjm)
        have e : n + (j - l.length) = j := by omega
        rw [e] at h1
        rw [h1]
        have : m[j - l.length]? = some b := hj
        obtain ⟨h2, h3⟩ := List.getElem?_eq_some_iff.1 this
        simp [byCells, h3]
    · have h1 : ∀ (vs : List Value) (o : Nat) (w : World), (w.setCells g o vs).tape = w.tape := by
        intro vs
        induction vs with
        | nil => intro o w; rfl
        | cons v vs ih => intro o w; simp only [World.setCells]; rw [ih]; rfl
      exact h1 _ _ _
    · have h1 : ∀ (vs : List Value) (o : Nat) (w : World), (w.setCells g o vs).heap.size = w.heap.size := by
        intro vs
        induction vs with
        | nil => intro o w; rfl
        | cons v vs ih => intro o w; simp only [World.setCells]; rw [ih]; simp [World.setCell]
      rw [h1]; exact Nat.le_refl _
  · obtain ⟨v', w', hr, hown, hgw⟩ := run_append_arg_grows (P := Tryz.prog) w 69 o.type 5 i (.int .u8 0) 1 1 Tryz.underlying69 hi hz0 hz1 hz2 rfl (by decide) ⟨g, 0, none⟩ n cap (byCells l) (by simp [byCells, hl])
      (fun j u hj => by obtain ⟨b, h1, rfl⟩ := byCells_at l j u hj; rw [Addr.add_lit, Nat.zero_add]; exact hcl j b h1) ⟨gx, 0, none⟩ 4 4 (byCells m) (by simp [byCells, hm]) hnews (by omega) (by unfold maxLen; omega) (by omega)
    rcases hown.2 with ⟨-, h0⟩ | ⟨g', c', cur, rfl, -, hb, -, -, -, htk⟩
    · omega
    · simp only [ho, resolve, invoke, builtin, Sem.run_bind, Sem.run_pure, Result.andThen_ok, List.map_toArray, List.map_cons, List.map_nil, hs, hx, hr]
      refine hK _ _ (h g' c' w' (fun j b hj => ?_) ⟨hgw.os, hgw.tape, hgw.output, hgw.size, fun k hk _ => hgw.block k hk (by simp)⟩)
      rw [cell_blk hb j]
      have h1 : (byCells l ++ byCells m)[j]? = some (.int .u8 (b.toNat : Int)) := by
        have : byCells l ++ byCells m = byCells (l ++ m) := by simp [byCells]
        rw [this]; simp only [byCells, List.getElem?_map, hj, Option.map_some]
      rw [← htk, List.getElem?_take] at h1
      split at h1
      · rw [← Array.getElem?_toList]; exact h1
      · cases h1

theorem convL (w : World) (g c : Nat) (l : List UInt8) (n : Nat) (hn : l.length = n) (h : ∀ j b, l[j]? = some b → w.cell? ⟨g, j, none⟩ = some (.int .u8 (b.toNat : Int))) : (convert 69 9 (.slice (some ⟨g, 0, none⟩) n c)).run Tryz.prog w = .ok (str l) w := by
  subst hn
  refine run_convert_bytes_back w 69 9 5 ⟨g, 0, none⟩ c l Tryz.underlying69 Tryz.underlying5 Tryz.underlying9 (fun j hj => ?_)
  rw [Addr.add_lit, Nat.zero_add]
  exact h j _ (List.getElem?_eq_getElem hj)

set_option maxRecDepth 100000 in
set_option maxHeartbeats 2000000 in
theorem sealP (g cap : Nat) (l : List UInt8) (hl : l.length ≤ 1000000) (w : World) (hc : ∀ j b, l[j]? = some b → w.cell? ⟨g, j, none⟩ = some (.int .u8 (b.toNat : Int))) (hg : g < w.heap.size)
    (hsp : l.length + 4 ≤ cap → ∀ j, j < 4 → (w.cell? ⟨g, l.length + j, none⟩).isSome = true ∧ w.frozen? ⟨g, l.length + j, none⟩ = false) :
    Calls Tryz.prog 123 #[.slice (some ⟨g, 0, none⟩) l.length cap] w fun e w' => e = .returned (str (sealB l)) ∧ Fr [g] w w' := by
  have hS := hide (sumP g cap l hl w hc)
  obtain ⟨n, hn⟩ : ∃ n, l.length = n := ⟨_, rfl⟩
  have HN := hide hn
  rw [hn] at hS hl hsp ⊢
  clear hn
  go_enter Tryz.func123, Tryz.ntmps123
  go_wp2_with fail
  refine hS.out.mono ?_
  rintro e w1 ⟨rfl, hw1⟩
  rw [hw1]
  clear hw1 w1
  have g1 : w.grownBy (w.alloc (.cells #[.int .u8 (fsum l / 16777216 % 256), .int .u8 (fsum l / 65536 % 256), .int .u8 (fsum l / 256 % 256), .int .u8 (fsum l % 256)] 5)) none := grown_alloc (grown_refl _) _
  have k1 : (w.alloc (.cells #[.int .u8 (fsum l / 16777216 % 256), .int .u8 (fsum l / 65536 % 256), .int .u8 (fsum l / 256 % 256), .int .u8 (fsum l % 256)] 5)).heap[w.heap.size]? = some (.cells #[.int .u8 (fsum l / 16777216 % 256), .int .u8 (fsum l / 65536 % 256), .int .u8 (fsum l / 256 % 256), .int .u8 (fsum l % 256)] 5) := by rw [heap_alloc_at]; simp
  have hcx : ∀ j b, (sum4 l)[j]? = some b → (w.alloc (.cells #[.int .u8 (fsum l / 16777216 % 256), .int .u8 (fsum l / 65536 % 256), .int .u8 (fsum l / 256 % 256), .int .u8 (fsum l % 256)] 5)).cell? ⟨w.heap.size, j, none⟩ = some (.int .u8 (b.toNat : Int)) := by
    intro j b hj
    rw [cell_blk k1 j]
    match j, hj with
    | 0, hj => simp only [sum4, List.getElem?_cons_zero, Option.some.injEq] at hj; subst hj; rw [lob_nat]; rfl
    | 1, hj => simp only [sum4, List.getElem?_cons_succ, List.getElem?_cons_zero, Option.some.injEq] at hj; subst hj; rw [lob_nat]; rfl
    | 2, hj => simp only [sum4, List.getElem?_cons_succ, List.getElem?_cons_zero, Option.some.injEq] at hj; subst hj; rw [lob_nat]; rfl
    | 3, hj => simp only [sum4, List.getElem?_cons_succ, List.getElem?_cons_zero, Option.some.injEq] at hj; subst hj; rw [lob_nat]; rfl
    | j + 4, hj => simp [sum4] at hj
  have hcl : ∀ j b, l[j]? = some b → (w.alloc (.cells #[.int .u8 (fsum l / 16777216 % 256), .int .u8 (fsum l / 65536 % 256), .int .u8 (fsum l / 256 % 256), .int .u8 (fsum l % 256)] 5)).cell? ⟨g, j, none⟩ = some (.int .u8 (b.toNat : Int)) := fun j b hj => (World.cell?_of_block (g1.block g hg (by simp))).trans (hc j b hj)
  have hsp1 : n + 4 ≤ cap → ∀ j, j < 4 → ((w.alloc (.cells #[.int .u8 (fsum l / 16777216 % 256), .int .u8 (fsum l / 65536 % 256), .int .u8 (fsum l / 256 % 256), .int .u8 (fsum l % 256)] 5)).cell? ⟨g, n + j, none⟩).isSome = true ∧ (w.alloc (.cells #[.int .u8 (fsum l / 16777216 % 256), .int .u8 (fsum l / 65536 % 256), .int .u8 (fsum l / 256 % 256), .int .u8 (fsum l % 256)] 5)).frozen? ⟨g, n + j, none⟩ = false := fun q j hj => by
    rw [World.cell?_of_block (a := ⟨g, n + j, none⟩) (g1.block g hg (by simp)), World.frozen?_of_block (a := ⟨g, n + j, none⟩) (g1.block g hg (by simp))]
    exact hsp q j hj
  have HC := hide hcx
  have HL := hide hcl
  have HS := hide hsp1
  clear hcx hcl hsp1 hc hsp
  go_wp2_with (at_builtin; refine wpList_four rfl _ _ rfl g n cap l rfl HN.out HL.out HS.out w.heap.size (sum4 l) rfl rfl HC.out hl ?_; intro g' c' w' hcell hgw; have hcv := convL w' g' c' (sealB l) (n + 4) (by rw [seal_len, HN.out]) hcell)
  go_ret
  exact ⟨rfl, ((Fr.refl [g] w).grown g1 (by simp)).grown hgw (by simp)⟩

end Go.Proofs.YtachmkhbbbmioaaGreat

namespace Go.Proofs.YtachmkhbbbmioaaGreat
open Go.RowKit Go.Shelf

/-- A clock, as an array of eight. -/
def ckArr (q : Nat → Int) : Array Value := #[.int .i64 (q 0), .int .i64 (q 1), .int .i64 (q 2), .int .i64 (q 3), .int .i64 (q 4), .int .i64 (q 5), .int .i64 (q 6), .int .i64 (q 7)]
theorem ckArr_at (q : Nat → Int) : ∀ i, i < 8 → (ckArr q)[i]? = some (.int .i64 (q i))
  | 0, _ => rfl | 1, _ => rfl | 2, _ => rfl | 3, _ => rfl | 4, _ => rfl | 5, _ => rfl | 6, _ => rfl | 7, _ => rfl
  | _ + 8, h => by omega

theorem clk_take {n i : Nat} (q : Nat → Int) (h : i ≤ n) : (clk n q).take i = clk i q := by
  unfold clk
  rw [← List.map_take, List.take_range]
  congr 2
  omega

theorem clk_succ (i : Nat) (q : Nat → Int) : vbs (clk (i + 1) q) = vbs (clk i q) ++ vb (q i).toNat := by
  unfold clk
  rw [List.range_succ, List.map_append, vbs_append]
  simp [vbs]

set_option maxRecDepth 100000 in
set_option maxHeartbeats 4000000 in
theorem appClk (v : Value) (l : List UInt8) (n : Nat) (h8 : n ≤ 8) (q : Nat → Int) (hq : ∀ i, i < n → 0 ≤ q i ∧ q i ≤ 100) (w : World) (hv : RowAt 5 1 v (byRow l) w) (hl : l.length ≤ 90000) :
    Calls Tryz.prog 124 #[v, .int .i64 n, .agg (ckArr q)] w fun e w' => ∃ v', e = .returned v' ∧ RowAt 5 1 v' (byRow (l ++ vbs (clk n q))) w' ∧ Fr v.ownBlock.toList w w' ∧ (∀ g, v'.ownBlock = some g → v.ownBlock = some g ∨ w.heap.size ≤ g) := by
  go_enter Tryz.func124, Tryz.ntmps124
  have g1 : w.grownBy (w.alloc (.cells (ckArr q) 134)) none := grown_alloc (grown_refl _) _
  have k1 : (w.alloc (.cells (ckArr q) 134)).heap[w.heap.size]? = some (.cells (ckArr q) 134) := by rw [heap_alloc_at]; simp
  have hbv : ∀ g, v.ownBlock = some g → g ≠ w.heap.size := fun g hg => by have := hv.lt hg; omega
  unfold ckArr at g1 k1 ⊢
  go_upto_region 1 with fail
  generalize (w.alloc (.cells #[.int .i64 (q 0), .int .i64 (q 1), .int .i64 (q 2), .int .i64 (q 3), .int .i64 (q 4), .int .i64 (q 5), .int .i64 (q 6), .int .i64 (q 7)] 134)) = w1 at g1 k1 ⊢
  have hv1 := hv.grown g1
  have hF1 : Fr v.ownBlock.toList w w1 := (Fr.refl _ w).grown g1 (by simp)
  obtain ⟨bb, hbb⟩ : ∃ bb, w.heap.size = bb := ⟨_, rfl⟩
  rw [hbb] at k1 hbv ⊢
  have hbb1 : bb < w1.heap.size := lt_of_heap k1
  have k1' : w1.heap[bb]? = some (.cells (ckArr q) 134) := k1
  clear k1
  go_wp2_with fail
  go_loopg [0, 7] n (fun gk s0 s7 wr => ∃ (i : Nat), s7 = .int .i64 ((i : Int) + 1) ∧ i ≤ n ∧ gk = n - i ∧ RowAt 5 1 s0 (byRow (l ++ vbs (clk i q))) wr ∧ Fr v.ownBlock.toList w1 wr ∧ (∀ g, s0.ownBlock = some g → v.ownBlock = some g ∨ w1.heap.size ≤ g))
  case atStart => exact ⟨0, rfl, by omega, rfl, by simpa [vbs, clk] using hv1, Fr.refl _ _, fun g hg => .inl hg⟩
  case round =>
    obtain ⟨i, rfl, hil, hgk, hR, hF, hO⟩ := hrel
    by_cases hlt : i < n
    · have hli : (i : Int) + 1 ≤ (n : Int) := by omega
      have hqi := hq i hlt
      have kb := hF.blk k1' (fun p => hbv bb (by simpa using p) rfl)
      have hcell : wr.cell? ⟨bb, 0 + (((i : Int) + 1).toNat - 1), none⟩ = some (.int .i64 (q i)) := by
        have e : 0 + (((i : Int) + 1).toNat - 1) = i := by omega
        rw [e, cell_blk kb i]; exact ckArr_at q i (by omega)
      have hOf := hide (of_any bb 0 ((i : Int) + 1) (by omega) (by omega) (q i) wr hcell)
      have hll : (l ++ vbs (clk i q)).length ≤ 100000 := by
        have := vbs_len (clk i q) (fun y hy => by
          obtain ⟨j, hj, rfl⟩ := List.mem_map.1 hy
          have := hq j (by have := List.mem_range.1 hj; omega)
          omega)
        rw [clk_len] at this
        rw [List.length_append]; omega
      have g2 : wr.grownBy (wr.alloc (.cells #[.int .i64 (q i)] 2)) none := grown_alloc (grown_refl _) _
      have k2 : (wr.alloc (.cells #[.int .i64 (q i)] 2)).heap[wr.heap.size]? = some (.cells #[.int .i64 (q i)] 2) := by rw [heap_alloc_at]; simp
      have hAV := hide (fun (u : Value) (hu : RowAt 5 1 u (byRow (l ++ vbs (clk i q))) wr) => appVar u (l ++ vbs (clk i q)) [q i] wr.heap.size 1 (wr.alloc (.cells #[.int .i64 (q i)] 2)) (hu.grown g2) k2 (by intro y hy; simp at hy; subst hy; omega) hll (by simp))
      have HR := hide hR
      have hlt1 : ∀ g, v.ownBlock = some g → g < wr.heap.size := fun g hg => by have := hv1.lt hg; have := hF.size; omega
      clear hcell hR hll
      go_wp2_with fail
      refine hOf.out.mono ?_
      rintro e w2 ⟨rfl, hw2⟩
      rw [hw2]
      clear hw2 w2
      go_wp2_with fail
      refine (hAV.out _ HR.out).mono ?_
      rintro e w3 ⟨v3, rfl, hR3, hF3, hO3⟩
      rw [List.append_assoc, show vbs (clk i q) ++ vbs [q i] = vbs (clk (i + 1) q) by rw [clk_succ]; simp [vbs]] at hR3
      go_wp2_with fail
      go_roundg (n - (i + 1))
      case measure => omega
      case rel =>
        have hs := hF.size
        refine ⟨i + 1, by go_num, by omega, rfl, hR3, ?_, fun g hg => ?_⟩
        · have hF2 := hF.grown g2 (by simp)
          refine ⟨hF3.os.trans hF2.os, hF3.tape.trans hF2.tape, hF3.output.trans hF2.output, Nat.le_trans hF2.size hF3.size, fun k hk hn => (hF3.block k (Nat.lt_of_lt_of_le hk hF2.size) (fun p => ?_)).trans (hF2.block k hk hn)⟩
          rcases hO k (by simpa using p) with p | p
          · exact hn (by simpa using p)
          · omega
        · rcases hO3 g hg with p | p
          · exact hO g p
          · have := g2.size; exact .inr (by omega)
    · obtain rfl : i = n := by omega
      have hlf : ¬ (i : Int) + 1 ≤ (i : Int) := by omega
      go_wp2_with fail
      go_ret
      exact ⟨_, rfl, hR, hF1.trans hF, fun g hg => (hO g hg).imp id (fun p => by have := g1.size; omega)⟩

end Go.Proofs.YtachmkhbbbmioaaGreat

namespace Go.Proofs.YtachmkhbbbmioaaGreat
open Go.RowKit Go.Shelf

theorem Fr.after {bs cs : List Nat} {a w w' : World} (h : Fr bs a w) (k : Fr cs w w') (hc : ∀ x ∈ cs, x ∈ bs ∨ a.heap.size ≤ x) : Fr bs a w' :=
  ⟨k.os.trans h.os, k.tape.trans h.tape, k.output.trans h.output, Nat.le_trans h.size k.size, fun i hi hn => (k.block i (Nat.lt_of_lt_of_le hi h.size) (fun q => by
    rcases hc i q with q | q
    · exact hn q
    · omega)).trans (h.block i hi hn)⟩
theorem Fr.toGrown {w w' : World} (h : Fr [] w w') : w.grownBy w' none := ⟨h.os, h.tape, h.output, h.size, fun k hk _ => h.block k hk (by simp)⟩
theorem Fr.ofGrown {bs : List Nat} {w w' : World} (h : w.grownBy w' none) : Fr bs w w' := (Fr.refl _ w).grown h (by simp)

/-- A list of bytes of one's own can be sealed. -/
theorem row_seal {v : Value} {l : List UInt8} {w : World} (h : RowAt 5 1 v (byRow l) w) (hl : 0 < l.length) :
    ∃ g cap, v = .slice (some ⟨g, 0, none⟩) l.length cap ∧ (∀ j b, l[j]? = some b → w.cell? ⟨g, j, none⟩ = some (.int .u8 (b.toNat : Int))) ∧ g < w.heap.size ∧ (l.length + 4 ≤ cap → ∀ j, j < 4 → (w.cell? ⟨g, l.length + j, none⟩).isSome = true ∧ w.frozen? ⟨g, l.length + j, none⟩ = false) := by
  rcases h.1.2 with ⟨-, h0⟩ | ⟨g, cap, cur, rfl, -, hb, -, -, hsz, -⟩
  · rw [byRow_len] at h0; omega
  · rw [byRow_len]
    refine ⟨g, cap, rfl, fun j b hj => ?_, lt_of_heap hb, fun hc j hj => ⟨?_, frozen_blk hb _⟩⟩
    · obtain ⟨g', cap', cur', hv, -, hb', hx⟩ := h.cell (byRow_at l hj)
      cases hv
      rw [cell_blk hb' j]
      simpa using hx 0 _ rfl
    · rw [cell_blk hb, Array.getElem?_eq_getElem (by omega)]; rfl

theorem row_new (w : World) (x : Int) (h0 : 0 ≤ x) (h1 : x < 256) : RowAt 5 1 (.slice (some ⟨w.heap.size, 0, none⟩) 1 1) (byRow [UInt8.ofNat x.toNat]) (w.alloc (.cells #[.int .u8 x] 5)) := by
  rw [by_of h0 h1]
  refine ⟨⟨rfl, .inr ⟨_, _, _, rfl, Nat.zero_le _, heap_alloc_new _ _, Nat.le_refl _, by unfold maxLen; omega, rfl, rfl⟩⟩, ?_⟩
  intro y hy
  simp at hy
  subst hy
  rfl

set_option maxRecDepth 100000 in
set_option maxHeartbeats 4000000 in
/-- A digest, as the program writes it. -/
theorem writeDigP (n : Nat) (h8 : n ≤ 8) (s : Int) (hs0 : 0 ≤ s) (hs8 : s ≤ 8) (q : Nat → Int) (hq : ∀ i, i < n → 0 ≤ q i ∧ q i ≤ 100) (w : World) :
    Calls Tryz.prog 86 #[.int .i64 n, .int .i64 s, .agg (ckArr q)] w fun e w' => e = .returned (str (digest n s q)) ∧ w.grownBy w' none := by
  have hcl := fun (v : Value) (w' : World) (hv : RowAt 5 1 v (byRow ([68] ++ vbs [s])) w') => appClk v _ n h8 q hq w' hv (by
    have := vb_len9 s (by omega)
    simp only [vbs, List.length_append, List.length_cons, List.length_nil]; omega)
  have HCl := hide hcl
  clear hcl
  have HG : Hid (∀ w1, (w.alloc (.cells (ckArr q) 134)) = w1 → w.grownBy w1 none ∧ w1.heap[w.heap.size]? = some (.cells (ckArr q) 134)) := by
    rintro w1 rfl
    exact ⟨grown_alloc (grown_refl _) _, by rw [heap_alloc_at]; simp⟩
  unfold ckArr at HCl HG ⊢
  go_enter Tryz.func86, Tryz.ntmps86
  go_upto_region 1 with fail
  generalize hw1 : (w.alloc (.cells #[.int .i64 (q 0), .int .i64 (q 1), .int .i64 (q 2), .int .i64 (q 3), .int .i64 (q 4), .int .i64 (q 5), .int .i64 (q 6), .int .i64 (q 7)] 134)) = w1
  obtain ⟨g1, k1⟩ := HG.out w1 hw1
  clear hw1 HG
  have r1 := row_new w1 68 (by omega) (by omega)
  have e68 : [UInt8.ofNat (68 : Int).toNat] = [68] := rfl
  rw [e68] at r1
  have g2 : w1.grownBy ((w1.alloc (.cells #[.int .u8 68] 5)).alloc (.cells #[.int .i64 s] 2)) none := grown_alloc (grown_alloc (grown_refl _) _) _
  have g3 : (w1.alloc (.cells #[.int .u8 68] 5)).grownBy ((w1.alloc (.cells #[.int .u8 68] 5)).alloc (.cells #[.int .i64 s] 2)) none := grown_alloc (grown_refl _) _
  have hb1 : (w1.alloc (.cells #[.int .u8 68] 5)).heap.size = w1.heap.size + 1 := by simp
  have HA := hide (appVar (.slice (some ⟨w1.heap.size, 0, none⟩) 1 1) [68] [s] (w1.alloc (.cells #[.int .u8 68] 5)).heap.size 1 ((w1.alloc (.cells #[.int .u8 68] 5)).alloc (.cells #[.int .i64 s] 2)) (r1.grown g3) (by rw [heap_alloc_at]; simp) (by intro y hy; simp at hy; subst hy; omega) (by simp) (by simp))
  rw [hb1] at HA
  go_wp2_with fail
  refine HA.out.mono ?_
  rintro e w3 ⟨v3, rfl, hR3, hF3, hO3⟩
  have hFA : Fr [] w w3 := ((Fr.ofGrown (grown_trans g1 g2)).after hF3 (fun x hx => .inr (by simp [Value.ownBlock] at hx; have := g1.size; omega)))
  have hown3 : ∀ g, v3.ownBlock = some g → w.heap.size ≤ g := fun g hg => by
    have h1 := g1.size
    have h2 := g2.size
    rcases hO3 g hg with p | p
    · simp [Value.ownBlock] at p; omega
    · omega
  have k3 : w3.heap[w.heap.size]? = some (.cells #[.int .i64 (q 0), .int .i64 (q 1), .int .i64 (q 2), .int .i64 (q 3), .int .i64 (q 4), .int .i64 (q 5), .int .i64 (q 6), .int .i64 (q 7)] 134) := hF3.blk ((g2.block _ (lt_of_heap k1) (by simp)).trans k1) (by have := lt_of_heap k1; simp [Value.ownBlock]; omega)
  have d0 : w3.cell? ⟨w.heap.size, 0, none⟩ = some (.int .i64 (q 0)) := cell_blk k3 0
  have d1 : w3.cell? ⟨w.heap.size, 1, none⟩ = some (.int .i64 (q 1)) := cell_blk k3 1
  have d2 : w3.cell? ⟨w.heap.size, 2, none⟩ = some (.int .i64 (q 2)) := cell_blk k3 2
  have d3 : w3.cell? ⟨w.heap.size, 3, none⟩ = some (.int .i64 (q 3)) := cell_blk k3 3
  have d4 : w3.cell? ⟨w.heap.size, 4, none⟩ = some (.int .i64 (q 4)) := cell_blk k3 4
  have d5 : w3.cell? ⟨w.heap.size, 5, none⟩ = some (.int .i64 (q 5)) := cell_blk k3 5
  have d6 : w3.cell? ⟨w.heap.size, 6, none⟩ = some (.int .i64 (q 6)) := cell_blk k3 6
  have d7 : w3.cell? ⟨w.heap.size, 7, none⟩ = some (.int .i64 (q 7)) := cell_blk k3 7
  have HR := hide hR3
  clear hR3 r1 g1 g2 g3 HA hF3 hb1 k1
  go_wp2_with fail
  refine (HCl.out v3 w3 HR.out).mono ?_
  rintro e w4 ⟨v4, rfl, hR4, hF4, hO4⟩
  have hFB : Fr [] w w4 := hFA.after hF4 (fun x hx => .inr (hown3 x (by simpa using hx)))
  have hlen : ([68] ++ vbs [s] ++ vbs (clk n q)).length ≤ 1000000 := by
    have := vb_len9 s (by omega)
    have h2 := vbs_len (clk n q) (fun y hy => by
      obtain ⟨i, hi, rfl⟩ := List.mem_map.1 hy
      have := hq i (List.mem_range.1 hi)
      omega)
    rw [clk_len] at h2
    simp only [vbs, List.length_append, List.length_cons, List.length_nil]; omega
  obtain ⟨g4, c4, rfl, hc4, hlt4, hsp4⟩ := row_seal hR4 (by simp)
  have HS := hide (sealP g4 c4 _ hlen w4 hc4 hlt4 hsp4)
  have hfin : [68] ++ vbs [s] ++ vbs (clk n q) = 68 :: vbs (s :: clk n q) := by simp [vbs]
  rw [hfin] at HS ⊢
  generalize hm : 68 :: vbs (s :: clk n q) = m at HS
  have hd : digest n s q = sealB m := by unfold digest; rw [hm]
  have HD := hide hd
  clear hm hd hc4 hsp4 hR4 hfin hlen
  have hown4 : w.heap.size ≤ g4 := by
    rcases hO4 g4 rfl with p | p
    · exact hown3 g4 p
    · have := hFA.size; omega
  generalize m.length = ml at HS ⊢
  go_wp2_with fail
  refine HS.out.mono ?_
  rintro e w5 ⟨rfl, hF5⟩
  go_wp2_with fail
  go_ret
  rw [HD.out]
  exact ⟨rfl, (hFB.after hF5 (fun x hx => .inr (by simp at hx; omega))).toGrown⟩

end Go.Proofs.YtachmkhbbbmioaaGreat

namespace Go.Proofs.YtachmkhbbbmioaaGreat
open Go.RowKit Go.Shelf

set_option maxRecDepth 100000 in
set_option maxHeartbeats 4000000 in
theorem appOp (n : Nat) (h8 : n ≤ 8) (x : OpR) (hx : OpOk n x) (w : World) :
    Calls Tryz.prog 128 #[.slice none 0 0, .int .i64 n, .agg (opArr x.o x.num x.c x.kind x.tc x.tk x.r x.q)] w fun e w' => ∃ v', e = .returned v' ∧ RowAt 5 1 v' (byRow (x.bytes n)) w' ∧ w.grownBy w' none ∧ (∀ g, v'.ownBlock = some g → w.heap.size ≤ g) := by
  obtain ⟨b0, b1, b2, b3, b4, b5, b6, b7⟩ := hx
  have HG : Hid (∀ w1, (w.alloc (.cells (opArr x.o x.num x.c x.kind x.tc x.tk x.r x.q) 154)) = w1 → w.grownBy w1 none ∧ w1.heap[w.heap.size]? = some (.cells (opArr x.o x.num x.c x.kind x.tc x.tk x.r x.q) 154)) := by
    rintro w1 rfl
    exact ⟨grown_alloc (grown_refl _) _, by rw [heap_alloc_at]; simp⟩
  have hcl := fun (v : Value) (l : List UInt8) (hl : l.length ≤ 90000) (w' : World) (hv : RowAt 5 1 v (byRow l) w') => appClk v l n h8 x.q (fun i hi => b7 i (by omega)) w' hv hl
  have HCl := hide hcl
  clear hcl
  unfold ckArr at HCl
  unfold opArr at HG ⊢
  go_enter Tryz.func128, Tryz.ntmps128
  go_upto_region 1 with fail
  generalize hw1 : (w.alloc (.cells #[.int .i64 x.o, .int .i64 x.num, .int .i64 x.c, .int .i64 x.kind, .int .i64 x.tc, .int .i64 x.tk, .int .i32 x.r, .int .i64 (x.q 0), .int .i64 (x.q 1), .int .i64 (x.q 2), .int .i64 (x.q 3), .int .i64 (x.q 4), .int .i64 (x.q 5), .int .i64 (x.q 6), .int .i64 (x.q 7)] 154)) = w1
  obtain ⟨g1, k1⟩ := HG.out w1 hw1
  clear hw1 HG
  generalize hbb : w.heap.size = bb at k1 ⊢
  have c0 : w1.cell? ⟨bb, 0, none⟩ = some (.int .i64 x.o) := cell_blk k1 0
  have c1 : w1.cell? ⟨bb, 1, none⟩ = some (.int .i64 x.num) := cell_blk k1 1
  have c2 : w1.cell? ⟨bb, 2, none⟩ = some (.int .i64 x.c) := cell_blk k1 2
  have c3 : w1.cell? ⟨bb, 3, none⟩ = some (.int .i64 x.kind) := cell_blk k1 3
  have c4 : w1.cell? ⟨bb, 4, none⟩ = some (.int .i64 x.tc) := cell_blk k1 4
  have c5 : w1.cell? ⟨bb, 5, none⟩ = some (.int .i64 x.tk) := cell_blk k1 5
  have g2 : w1.grownBy (w1.alloc (.cells #[.int .i64 x.o, .int .i64 x.num, .int .i64 x.c, .int .i64 x.kind, .int .i64 x.tc, .int .i64 x.tk] 2)) none := grown_alloc (grown_refl _) _
  have HA := hide (appVar (.slice none 0 0) [] [x.o, x.num, x.c, x.kind, x.tc, x.tk] w1.heap.size 6 (w1.alloc (.cells #[.int .i64 x.o, .int .i64 x.num, .int .i64 x.c, .int .i64 x.kind, .int .i64 x.tc, .int .i64 x.tk] 2)) (row_nil _ _ _) (by rw [heap_alloc_at]; simp) (by intro y hy; simp only [List.mem_cons, List.not_mem_nil, or_false] at hy; omega) (by simp) (by simp))
  rw [List.nil_append] at HA
  go_wp2_with fail
  refine HA.out.mono ?_
  rintro e w3 ⟨v3, rfl, hR3, hF3, hO3⟩
  have hF3' : Fr [] w w3 := (Fr.ofGrown (grown_trans g1 g2)).after hF3 (by simp [Value.ownBlock])
  have hown3 : ∀ g, v3.ownBlock = some g → bb < g := fun g hg => by
    have h1 := lt_of_heap k1
    have h2 := g2.size
    rcases hO3 g hg with p | p
    · cases p
    · omega
  have k3 := hF3.blk ((g2.block _ (lt_of_heap k1) (by simp)).trans k1) (by simp [Value.ownBlock])
  clear c0 c1 c2 c3 c4 c5 g1 g2 HA hF3 hO3 k1
  have l3 := vbs_len [x.o, x.num, x.c, x.kind, x.tc, x.tk] (by intro y hy; simp only [List.mem_cons, List.not_mem_nil, or_false] at hy; omega)
  simp only [List.length_cons, List.length_nil] at l3
  have HB : Hid (x.bytes n = vbs [x.o, x.num, x.c, x.kind, x.tc, x.tk] ++ vbs (if x.kind = 0 then [x.r] else []) ++ vbs (clk n x.q)) := by
    show x.bytes n = _
    unfold OpR.bytes OpR.nums
    rw [vbs_append]
  generalize vbs [x.o, x.num, x.c, x.kind, x.tc, x.tk] = l6 at hR3 l3 HB
  have c3 : w3.cell? ⟨bb, 3, none⟩ = some (.int .i64 x.kind) := cell_blk k3 3
  have HR := hide hR3
  clear hR3
  -- the clock
  have fin : ∀ (w4 : World) (v4 : Value) (l4 : List UInt8), l4.length ≤ 90000 → RowAt 5 1 v4 (byRow l4) w4 → Fr [] w w4 → (∀ g, v4.ownBlock = some g → bb < g) →
      Calls Tryz.prog 124 #[v4, .int .i64 n, .agg #[.int .i64 (x.q 0), .int .i64 (x.q 1), .int .i64 (x.q 2), .int .i64 (x.q 3), .int .i64 (x.q 4), .int .i64 (x.q 5), .int .i64 (x.q 6), .int .i64 (x.q 7)]] w4 fun e w' => ∃ v', e = .returned v' ∧ RowAt 5 1 v' (byRow (l4 ++ vbs (clk n x.q))) w' ∧ w.grownBy w' none ∧ (∀ g, v'.ownBlock = some g → w.heap.size ≤ g) := by
    intro w4 v4 l4 hl4 hR4 hF4 hO4
    refine (HCl.out v4 l4 hl4 w4 hR4).mono ?_
    rintro e w5 ⟨v5, rfl, hR5, hF5, hO5⟩
    refine ⟨v5, rfl, hR5, (hF4.after hF5 (fun y hy => .inr (by have := hO4 y (by simpa using hy); omega))).toGrown, fun g hg => ?_⟩
    rcases hO5 g hg with p | p
    · have := hO4 g p; omega
    · have := hF4.size; omega
  have FIN := hide fin
  clear fin HCl
  have e7 := fun (W : World) (hW : W.heap[bb]? = some (.cells #[.int .i64 x.o, .int .i64 x.num, .int .i64 x.c, .int .i64 x.kind, .int .i64 x.tc, .int .i64 x.tk, .int .i32 x.r, .int .i64 (x.q 0), .int .i64 (x.q 1), .int .i64 (x.q 2), .int .i64 (x.q 3), .int .i64 (x.q 4), .int .i64 (x.q 5), .int .i64 (x.q 6), .int .i64 (x.q 7)] 154)) =>
    (⟨cell_blk hW 7, cell_blk hW 8, cell_blk hW 9, cell_blk hW 10, cell_blk hW 11, cell_blk hW 12, cell_blk hW 13, cell_blk hW 14⟩ : W.cell? ⟨bb, 7, none⟩ = some (.int .i64 (x.q 0)) ∧ W.cell? ⟨bb, 8, none⟩ = some (.int .i64 (x.q 1)) ∧ W.cell? ⟨bb, 9, none⟩ = some (.int .i64 (x.q 2)) ∧ W.cell? ⟨bb, 10, none⟩ = some (.int .i64 (x.q 3)) ∧ W.cell? ⟨bb, 11, none⟩ = some (.int .i64 (x.q 4)) ∧ W.cell? ⟨bb, 12, none⟩ = some (.int .i64 (x.q 5)) ∧ W.cell? ⟨bb, 13, none⟩ = some (.int .i64 (x.q 6)) ∧ W.cell? ⟨bb, 14, none⟩ = some (.int .i64 (x.q 7)))
  rcases b3 with hk0 | hk1
  · have hb : x.bytes n = l6 ++ vbs [x.r] ++ vbs (clk n x.q) := by rw [HB.out, if_pos hk0]
    have HBB := hide hb
    rw [hk0] at c3
    have c6 : w3.cell? ⟨bb, 6, none⟩ = some (.int .i32 x.r) := cell_blk k3 6
    have hwr : IntKind.i64.wrap x.r = x.r := by rw [IntKind.wrap_i64]; omega
    have g4 : w3.grownBy (w3.alloc (.cells #[.int .i64 x.r] 2)) none := grown_alloc (grown_refl _) _
    have HA := hide (appVar v3 l6 [x.r] w3.heap.size 1 (w3.alloc (.cells #[.int .i64 x.r] 2)) (HR.out.grown g4) (by rw [heap_alloc_at]; simp) (by intro y hy; simp at hy; subst hy; omega) (by omega) (by simp))
    have lr := vb_len9 x.r (by omega)
    have HLL : Hid ((l6 ++ vbs [x.r]).length ≤ 90000) := by
      show (l6 ++ vbs [x.r]).length ≤ 90000
      simp only [vbs, List.length_append, List.length_nil]; omega
    clear hb hk0 lr l3 HB
    go_wp2_with fail
    refine HA.out.mono ?_
    rintro e w4 ⟨v4, rfl, hR4, hF4, hO4⟩
    have k4 := hF4.blk ((g4.block _ (lt_of_heap k3) (by simp)).trans k3) (fun p => by have := hown3 bb (by simpa using p); omega)
    obtain ⟨f7, f8, f9, f10, f11, f12, f13, f14⟩ := e7 w4 k4
    have hFB : Fr [] w w4 := (hF3'.grown g4 (by simp)).after hF4 (fun y hy => .inr (by have := hown3 y (by simpa using hy); omega))
    have hO4' : ∀ g, v4.ownBlock = some g → bb < g := fun g hg => by
      rcases hO4 g hg with p | p
      · exact hown3 g p
      · have := lt_of_heap k3; have := g4.size; omega
    have HR4 := hide hR4
    clear hR4 HA hF4 hO4 e7 c3 c6 g4 k3 k4 hF3' hown3 HR
    generalize l6 ++ vbs [x.r] = l7 at HLL HR4 HBB
    go_wp2_with fail
    refine (FIN.out w4 v4 l7 HLL.out HR4.out hFB hO4').mono ?_
    rintro e w5 ⟨v5, rfl, h5⟩
    go_wp2_with fail
    go_ret
    rw [HBB.out]
    exact ⟨_, rfl, h5⟩
  · have hb : x.bytes n = l6 ++ vbs (clk n x.q) := by rw [HB.out, if_neg (by omega)]; simp [vbs]
    have HBB := hide hb
    rw [hk1] at c3
    obtain ⟨f7, f8, f9, f10, f11, f12, f13, f14⟩ := e7 w3 k3
    have hl6 : l6.length ≤ 90000 := by omega
    clear hb hk1 l3 HB e7 k3
    go_wp2_with fail
    refine (FIN.out w3 v3 l6 hl6 HR.out hF3' hown3).mono ?_
    rintro e w5 ⟨v5, rfl, h5⟩
    go_wp2_with fail
    go_ret
    rw [HBB.out]
    exact ⟨_, rfl, h5⟩

set_option maxRecDepth 100000 in
set_option maxHeartbeats 4000000 in
theorem writeBatP (k : Nat) (hk : k ≤ 100000) (bs : List UInt8) (hbs : bs.length ≤ 200000) (vb0 : Value) (w : World) (hv : RowAt 5 1 vb0 (byRow bs) w) :
    Calls Tryz.prog 129 #[.int .i64 k, vb0] w fun e w' => e = .returned (str (sealB (66 :: (vb k ++ bs)))) ∧ w.grownBy w' none := by
  have r1 := row_new w 66 (by omega) (by omega)
  have e66 : [UInt8.ofNat (66 : Int).toNat] = [66] := rfl
  rw [e66] at r1
  have g2 : w.grownBy ((w.alloc (.cells #[.int .u8 66] 5)).alloc (.cells #[.int .i64 k] 2)) none := grown_alloc (grown_alloc (grown_refl _) _) _
  have g3 : (w.alloc (.cells #[.int .u8 66] 5)).grownBy ((w.alloc (.cells #[.int .u8 66] 5)).alloc (.cells #[.int .i64 k] 2)) none := grown_alloc (grown_refl _) _
  have hb1 : (w.alloc (.cells #[.int .u8 66] 5)).heap.size = w.heap.size + 1 := by simp
  have HA := hide (appVar (.slice (some ⟨w.heap.size, 0, none⟩) 1 1) [66] [(k : Int)] (w.alloc (.cells #[.int .u8 66] 5)).heap.size 1 ((w.alloc (.cells #[.int .u8 66] 5)).alloc (.cells #[.int .i64 k] 2)) (r1.grown g3) (by rw [heap_alloc_at]; simp) (by intro y hy; simp at hy; subst hy; omega) (by simp) (by simp))
  rw [hb1] at HA
  have lk := vb_len9 (k : Int) (by omega)
  have ek : [66] ++ vbs [(k : Int)] = 66 :: vb k := by simp [vbs]
  rw [ek] at HA
  rw [Int.toNat_natCast] at lk
  obtain ⟨av, cv, rfl, -⟩ := hv.value
  rw [byRow_len] at hv ⊢
  go_enter Tryz.func129, Tryz.ntmps129
  go_wp2_with fail
  refine HA.out.mono ?_
  rintro e w3 ⟨v3, rfl, hR3, hF3, hO3⟩
  have hFA : Fr [] w w3 := (Fr.ofGrown g2).after hF3 (fun x hx => .inr (by simp [Value.ownBlock] at hx; omega))
  have hown3 : ∀ g, v3.ownBlock = some g → w.heap.size ≤ g := fun g hg => by
    have h2 := g2.size
    rcases hO3 g hg with p | p
    · simp [Value.ownBlock] at p; omega
    · omega
  have hv3 : RowAt 5 1 (.slice av bs.length cv) (byRow bs) w3 := hv.kept (fun g hg => hFA.block g (hv.lt hg) (by simp))
  have hs3 := hv3.src
  have l3 : (byRow (66 :: vb k)).length ≤ 20 := by rw [byRow_len]; simp; omega
  have lb : (byRow bs).length ≤ 200000 := by rw [byRow_len]; exact hbs
  clear HA hF3 r1 g2 g3 hb1
  go_wp2_with (at_builtin; refine wpList_row Tryz.underlying69 infoU8 rfl (by decide) rfl _ _ rfl v3 _ rfl hR3 _ _ rfl hs3 (byRow_one _) (byRow_cell _) (by unfold maxLen; omega) (by omega) ?_; intro v4 w4 hR4 hg4 hat)
  rw [← byRow_append] at hR4
  have hFB : Fr [] w w4 := hFA.grown hg4 (fun g hg => .inr (hown3 g hg))
  have hown4 : ∀ g, v4.ownBlock = some g → w.heap.size ≤ g := fun g hg => by
    rcases hat with hat | hat
    · exact hown3 g (hat ▸ hg)
    · rw [hat] at hg; cases hg; exact hFA.size
  obtain ⟨g4, c4, rfl, hc4, hlt4, hsp4⟩ := row_seal hR4 (by simp)
  have hlen : (66 :: vb k ++ bs).length ≤ 1000000 := by
    simp only [List.length_append, List.length_cons]; omega
  have HS := hide (sealP g4 c4 _ hlen w4 hc4 hlt4 hsp4)
  have hfin : 66 :: vb k ++ bs = 66 :: (vb k ++ bs) := rfl
  rw [hfin] at HS ⊢
  generalize hm : 66 :: (vb k ++ bs) = m at HS ⊢
  have HM := hide hm
  clear hm
  have h4 := hown4 g4 rfl
  clear hc4 hsp4 hR4 hs3 hR3 hv3
  generalize m.length = ml at HS ⊢
  go_wp2_with fail
  refine HS.out.mono ?_
  rintro e w5 ⟨rfl, hF5⟩
  go_wp2_with fail
  go_ret
  rw [HM.out]
  exact ⟨rfl, (hFB.after hF5 (fun x hx => .inr (by simp at hx; omega))).toGrown⟩

end Go.Proofs.YtachmkhbbbmioaaGreat

namespace Go.Proofs.YtachmkhbbbmioaaGreat
open Go.RowKit Go.Shelf

theorem infoStr : (Tryz.prog.info? 9).map (fun i => (i.zero, i.size, i.bytes)) = some (some (.string ⟨#[]⟩), 1, 16) := by kernel_rfl

def strRow (l : List (List UInt8)) : List (List Value) := l.map fun b => [str b]
theorem strRow_len (l : List (List UInt8)) : (strRow l).length = l.length := by simp [strRow]
theorem strRow_append (a b : List (List UInt8)) : strRow (a ++ b) = strRow a ++ strRow b := by simp [strRow]
theorem strRow_one (l : List (List UInt8)) : ∀ y ∈ strRow l, y.length = 1 := by
  intro y hy
  obtain ⟨x, -, rfl⟩ := List.mem_map.1 hy
  rfl
theorem strRow_cell (l : List (List UInt8)) : ∀ y ∈ strRow l, ∀ c ∈ y, c.oneCell' = true := by
  intro y hy c hc
  obtain ⟨x, -, rfl⟩ := List.mem_map.1 hy
  simp only [List.mem_cons, List.not_mem_nil, or_false] at hc
  rw [hc]; rfl

/-- The program's operations in a list. -/
def opRow (l : List OpR) : List (List Value) := l.map fun x => x.arr.toList
theorem opRow_len (l : List OpR) : (opRow l).length = l.length := by simp [opRow]
theorem opRow_one (l : List OpR) : ∀ y ∈ opRow l, y.length = 15 := by
  intro y hy
  obtain ⟨x, -, rfl⟩ := List.mem_map.1 hy
  rfl
theorem opRow_cell (l : List OpR) : ∀ y ∈ opRow l, ∀ c ∈ y, c.oneCell' = true := by
  intro y hy c hc
  obtain ⟨x, -, rfl⟩ := List.mem_map.1 hy
  simp only [OpR.arr, opArr, List.mem_cons, List.not_mem_nil, or_false] at hc
  rcases hc with rfl | rfl | rfl | rfl | rfl | rfl | rfl | rfl | rfl | rfl | rfl | rfl | rfl | rfl | rfl <;> rfl

theorem packs_cons (n : Nat) (some : List OpR) (x : OpR) (l : List OpR) : packs n some (x :: l) = if 114 < (some.flatMap (OpR.bytes n)).length + (x.bytes n).length then some :: packs n [x] l else packs n (some ++ [x]) l := rfl
theorem drop_at {l : List OpR} {i : Nat} {x : OpR} (h : l[i]? = some x) : l.drop i = x :: l.drop (i + 1) := by
  obtain ⟨hlt, hx⟩ := List.getElem?_eq_some_iff.1 h
  rw [List.drop_eq_getElem_cons hlt, hx]

theorem bytes_pos (n : Nat) (x : OpR) : 0 < (x.bytes n).length := by
  have := vb_pos x.o.toNat
  unfold OpR.bytes OpR.nums
  simp only [List.cons_append, List.length_append, vbs]
  omega

set_option maxRecDepth 100000 in
set_option maxHeartbeats 4000000 in
theorem writeBsP (n : Nat) (h8 : n ≤ 8) (l : List OpR) (hl : l.length ≤ 1000) (hok : ∀ x ∈ l, OpOk n x) (v : Value) (w : World) (hv : RowAt 154 15 v (opRow l) w) :
    Calls Tryz.prog 88 #[.int .i64 n, v] w fun e w' => ∃ v', e = .returned v' ∧ RowAt 9 1 v' (strRow (answers n l)) w' ∧ w.grownBy w' none ∧ (∀ g, v'.ownBlock = some g → w.heap.size ≤ g) := by
  obtain ⟨av, cv, rfl, -⟩ := hv.value
  rw [opRow_len] at hv ⊢
  go_enter Tryz.func88, Tryz.ntmps88
  go_wp2_with fail
  go_loopg [5, 6, 7, 13] l.length (fun gk s5 s6 s7 s13 wr => ∃ (i : Nat) (out : List (List UInt8)) (some : List OpR), s13 = .int .i64 i ∧ i ≤ l.length ∧ gk = l.length - i ∧ s7 = .int .i64 some.length ∧ some.length ≤ i ∧ (∀ x ∈ some, OpOk n x) ∧ out.length ≤ i ∧
    Hid (out ++ (packs n some (l.drop i)).map (batch n) = answers n l) ∧ RowAt 9 1 s5 (strRow out) wr ∧ RowAt 5 1 s6 (byRow (some.flatMap (OpR.bytes n))) wr ∧ w.grownBy wr none ∧ (∀ g, s5.ownBlock = .some g → w.heap.size ≤ g) ∧ (∀ g, s6.ownBlock = .some g → w.heap.size ≤ g))
  case atStart => exact ⟨0, [], [], rfl, by omega, rfl, rfl, by simp, by simp, by simp, hide (by simp [answers]), row_nil _ _ _, row_nil _ _ _, grown_refl _, by simp [Value.ownBlock], by simp [Value.ownBlock]⟩
  case round =>
    obtain ⟨i, out, some, rfl, hil, hgk, rfl, hsl, hso, hol, hP, hR5, hR6, hG, hO5, hO6⟩ := hrel
    by_cases hlt : i < l.length
    · have hli : (i : Int) < (l.length : Int) := by omega
      obtain ⟨x, hx⟩ : ∃ x, l[i]? = .some x := ⟨l[i], by simp [hlt]⟩
      have hxo := hok x (List.mem_of_getElem? hx)
      obtain ⟨gv, cv', cur, hv', -, hb, hc⟩ := (hv.grown hG).cell (i := i) (x := x.arr.toList) (by simp [opRow, hx])
      rw [opRow_len] at hv'
      cases hv'
      have r0 : wr.cell? ⟨gv, i * 15, none⟩ = .some (.int .i64 x.o) := (cell_blk hb _).trans (hc 0 _ rfl)
      have r1 : wr.cell? ⟨gv, i * 15 + 1, none⟩ = .some (.int .i64 x.num) := (cell_blk hb _).trans (hc 1 _ rfl)
      have r2 : wr.cell? ⟨gv, i * 15 + 2, none⟩ = .some (.int .i64 x.c) := (cell_blk hb _).trans (hc 2 _ rfl)
      have r3 : wr.cell? ⟨gv, i * 15 + 3, none⟩ = .some (.int .i64 x.kind) := (cell_blk hb _).trans (hc 3 _ rfl)
      have r4 : wr.cell? ⟨gv, i * 15 + 4, none⟩ = .some (.int .i64 x.tc) := (cell_blk hb _).trans (hc 4 _ rfl)
      have r5 : wr.cell? ⟨gv, i * 15 + 5, none⟩ = .some (.int .i64 x.tk) := (cell_blk hb _).trans (hc 5 _ rfl)
      have r6 : wr.cell? ⟨gv, i * 15 + 6, none⟩ = .some (.int .i32 x.r) := (cell_blk hb _).trans (hc 6 _ rfl)
      have r7 : wr.cell? ⟨gv, i * 15 + 7, none⟩ = .some (.int .i64 (x.q 0)) := (cell_blk hb _).trans (hc 7 _ rfl)
      have r8 : wr.cell? ⟨gv, i * 15 + 8, none⟩ = .some (.int .i64 (x.q 1)) := (cell_blk hb _).trans (hc 8 _ rfl)
      have r9 : wr.cell? ⟨gv, i * 15 + 9, none⟩ = .some (.int .i64 (x.q 2)) := (cell_blk hb _).trans (hc 9 _ rfl)
      have r10 : wr.cell? ⟨gv, i * 15 + 10, none⟩ = .some (.int .i64 (x.q 3)) := (cell_blk hb _).trans (hc 10 _ rfl)
      have r11 : wr.cell? ⟨gv, i * 15 + 11, none⟩ = .some (.int .i64 (x.q 4)) := (cell_blk hb _).trans (hc 11 _ rfl)
      have r12 : wr.cell? ⟨gv, i * 15 + 12, none⟩ = .some (.int .i64 (x.q 5)) := (cell_blk hb _).trans (hc 12 _ rfl)
      have r13 : wr.cell? ⟨gv, i * 15 + 13, none⟩ = .some (.int .i64 (x.q 6)) := (cell_blk hb _).trans (hc 13 _ rfl)
      have r14 : wr.cell? ⟨gv, i * 15 + 14, none⟩ = .some (.int .i64 (x.q 7)) := (cell_blk hb _).trans (hc 14 _ rfl)
      go_upto_region 7 with fail
      have g1 : wr.grownBy (wr.alloc (.cells #[.int .i64 x.o, .int .i64 x.num, .int .i64 x.c, .int .i64 x.kind, .int .i64 x.tc, .int .i64 x.tk, .int .i32 x.r, .int .i64 (x.q 0), .int .i64 (x.q 1), .int .i64 (x.q 2), .int .i64 (x.q 3), .int .i64 (x.q 4), .int .i64 (x.q 5), .int .i64 (x.q 6), .int .i64 (x.q 7)] 154)) none := grown_alloc (grown_refl _) _
      have k1 : (wr.alloc (.cells #[.int .i64 x.o, .int .i64 x.num, .int .i64 x.c, .int .i64 x.kind, .int .i64 x.tc, .int .i64 x.tk, .int .i32 x.r, .int .i64 (x.q 0), .int .i64 (x.q 1), .int .i64 (x.q 2), .int .i64 (x.q 3), .int .i64 (x.q 4), .int .i64 (x.q 5), .int .i64 (x.q 6), .int .i64 (x.q 7)] 154)).heap[wr.heap.size]? = .some (.cells #[.int .i64 x.o, .int .i64 x.num, .int .i64 x.c, .int .i64 x.kind, .int .i64 x.tc, .int .i64 x.tk, .int .i32 x.r, .int .i64 (x.q 0), .int .i64 (x.q 1), .int .i64 (x.q 2), .int .i64 (x.q 3), .int .i64 (x.q 4), .int .i64 (x.q 5), .int .i64 (x.q 6), .int .i64 (x.q 7)] 154) := by rw [heap_alloc_at]; simp
      generalize (wr.alloc (.cells #[.int .i64 x.o, .int .i64 x.num, .int .i64 x.c, .int .i64 x.kind, .int .i64 x.tc, .int .i64 x.tk, .int .i32 x.r, .int .i64 (x.q 0), .int .i64 (x.q 1), .int .i64 (x.q 2), .int .i64 (x.q 3), .int .i64 (x.q 4), .int .i64 (x.q 5), .int .i64 (x.q 6), .int .i64 (x.q 7)] 154)) = w1 at g1 k1 ⊢
      generalize wr.heap.size = bx at k1 ⊢
      have f0 : w1.cell? ⟨bx, 0, none⟩ = .some (.int .i64 x.o) := cell_blk k1 0
      have f1 : w1.cell? ⟨bx, 1, none⟩ = .some (.int .i64 x.num) := cell_blk k1 1
      have f2 : w1.cell? ⟨bx, 2, none⟩ = .some (.int .i64 x.c) := cell_blk k1 2
      have f3 : w1.cell? ⟨bx, 3, none⟩ = .some (.int .i64 x.kind) := cell_blk k1 3
      have f4 : w1.cell? ⟨bx, 4, none⟩ = .some (.int .i64 x.tc) := cell_blk k1 4
      have f5 : w1.cell? ⟨bx, 5, none⟩ = .some (.int .i64 x.tk) := cell_blk k1 5
      have f6 : w1.cell? ⟨bx, 6, none⟩ = .some (.int .i32 x.r) := cell_blk k1 6
      have f7 : w1.cell? ⟨bx, 7, none⟩ = .some (.int .i64 (x.q 0)) := cell_blk k1 7
      have f8 : w1.cell? ⟨bx, 8, none⟩ = .some (.int .i64 (x.q 1)) := cell_blk k1 8
      have f9 : w1.cell? ⟨bx, 9, none⟩ = .some (.int .i64 (x.q 2)) := cell_blk k1 9
      have f10 : w1.cell? ⟨bx, 10, none⟩ = .some (.int .i64 (x.q 3)) := cell_blk k1 10
      have f11 : w1.cell? ⟨bx, 11, none⟩ = .some (.int .i64 (x.q 4)) := cell_blk k1 11
      have f12 : w1.cell? ⟨bx, 12, none⟩ = .some (.int .i64 (x.q 5)) := cell_blk k1 12
      have f13 : w1.cell? ⟨bx, 13, none⟩ = .some (.int .i64 (x.q 6)) := cell_blk k1 13
      have f14 : w1.cell? ⟨bx, 14, none⟩ = .some (.int .i64 (x.q 7)) := cell_blk k1 14
      have HA := hide (appOp n h8 x hxo w1)
      unfold opArr at HA
      have hR5 := hR5.grown g1
      have hR6 := hR6.grown g1
      have hG := grown_trans hG g1
      have hfl := flat_len_op h8 some hso
      have hpl := bytes_len h8 hxo
      clear r0 r1 r2 r3 r4 r5 r6 r7 r8 r9 r10 r11 r12 r13 r14 hb hc k1 g1
      obtain ⟨a6, c6, rfl, -⟩ := hR6.value
      rw [byRow_len] at hR6 hO6 ⊢
      have HP := hP
      have HP6 := hide hR6
      have hdr := drop_at hx
      have HPK : Hid (out ++ (packs n some (x :: l.drop (i + 1))).map (batch n) = answers n l) := by rw [← hdr]; exact HP
      clear hdr HP hP hR6
      obtain ⟨fl, hfl0⟩ : ∃ fl, (some.flatMap (OpR.bytes n)).length = fl := ⟨_, rfl⟩
      obtain ⟨pl, hpl0⟩ : ∃ pl, (x.bytes n).length = pl := ⟨_, rfl⟩
      have HFL := hide hfl0
      have HPL := hide hpl0
      rw [hfl0] at hfl HP6 hO6 ⊢
      rw [hpl0] at hpl
      clear hfl0 hpl0
      go_wp2_with fail
      refine HA.out.mono ?_
      rintro e w3 ⟨v3, rfl, hR3, g3, hO3⟩
      obtain ⟨a3, c3, rfl, -⟩ := hR3.value
      rw [byRow_len, HPL.out] at hR3 hO3 ⊢
      have hR5 := hR5.grown g3
      have hR6 := HP6.out.grown g3
      have hG := grown_trans hG g3
      have hs3 := hR3.src
      have hR3b := hR3
      clear HP6 HA g3 f0 f1 f2 f3 f4 f5 f6 f7 f8 f9 f10 f11 f12 f13 f14
      have hsz : w.heap.size ≤ w3.heap.size := hG.size
      by_cases h114 : 114 < fl + pl
      · have h114i : (114 : Int) < (fl : Int) + (pl : Int) := by omega
        have HW := hide (writeBatP some.length (by omega) (some.flatMap (OpR.bytes n)) (by rw [HFL.out]; omega) (.slice a6 fl c6) w3 hR6)
        have HPK2 : Hid ((out ++ [batch n some]) ++ (packs n [x] (l.drop (i + 1))).map (batch n) = answers n l) := by
          have := HPK.out
          rw [packs_cons, if_pos (by rw [HFL.out, HPL.out]; exact h114)] at this
          refine hide ?_
          rw [← this]; simp
        have HBT : Hid (sealB (66 :: (vb some.length ++ some.flatMap (OpR.bytes n))) = batch n some) := rfl
        rw [HBT.out] at HW
        clear HBT HPK
        generalize hbt : batch n some = bt at HW HPK2
        clear hbt
        have hR6' := hR6
        clear hR6
        go_wp2_with fail
        refine HW.out.mono ?_
        rintro e w4 ⟨rfl, g4⟩
        have g5 : w4.grownBy (w4.alloc (.cells #[str bt] 9)) none := grown_alloc (grown_refl _) _
        have hS5 : SrcAt (w4.alloc (.cells #[str bt] 9)) (.slice (.some ⟨w4.heap.size, 0, none⟩) 1 1) (strRow [bt]) := src_new w4 [str bt] _
        have hR5a := hR5.grown (grown_trans g4 g5)
        have hG5 := grown_trans hG (grown_trans g4 g5)
        have hR3a := hR3b.grown (grown_trans g4 g5)
        have lo : (strRow out).length ≤ 1000 := by rw [strRow_len]; omega
        have l1 : (strRow [bt]).length = 1 := rfl
        clear hR5 hs3 hR3 hR3b
        go_upto_region 11 with (at_builtin; refine wpList_row Tryz.underlying26 infoStr rfl (by decide) rfl _ _ rfl u5 _ rfl hR5a _ _ rfl hS5 (strRow_one _) (strRow_cell _) (by unfold maxLen; omega) (by omega) ?_; intro v5 w5 hR5' hg5 hat5)
        rw [← strRow_append] at hR5'
        have hG6 : w.grownBy w5 none := ((Fr.ofGrown hG5).grown hg5 (fun k hk => .inr (hO5 k hk)) : Fr [] w w5).toGrown
        have hO5' : ∀ g, v5.ownBlock = .some g → w.heap.size ≤ g := fun g hg => by
          rcases hat5 with hat | hat
          · exact hO5 g (hat ▸ hg)
          · rw [hat] at hg; cases hg; exact hG5.size
        have hR3' : RowAt 5 1 (.slice a3 pl c3) (byRow (x.bytes n)) w5 := hR3a.kept (fun g hg => hg5.block g (hR3a.lt hg) (fun q => hR5a.ne hR3a (by decide) q.symm hg))
        have hs3 := hR3'.src
        have l3 : (byRow (x.bytes n)).length = pl := by rw [byRow_len, HPL.out]
        have hnil := row_nil 5 1 w5
        clear hR5a hS5 hR3a g4 g5
        go_wp2_with (at_builtin; refine wpList_row Tryz.underlying69 infoU8 rfl (by decide) rfl _ _ rfl _ _ rfl hnil _ _ rfl hs3 (byRow_one _) (byRow_cell _) (by unfold maxLen; simp only [List.length_nil]; omega) (by simp only [List.length_nil]; omega) ?_; intro v6 w6 hR6' hg6 hat6)
        rw [List.nil_append] at hR6'
        have hR5'' := hR5'.grown hg6
        go_roundg (l.length - (i + 1))
        case measure => omega
        case rel =>
          refine ⟨i + 1, out ++ [bt], [x], by go_num, by omega, rfl, rfl, by simp, by simpa using hxo, by simp; omega, HPK2, hR5'', by simpa using hR6', grown_trans hG6 hg6, hO5', fun g hg => ?_⟩
          rcases hat6 with hat | hat
          · rw [hat] at hg; cases hg
          · rw [hat] at hg; cases hg; exact hG6.size
      · have h114i : ¬ (114 : Int) < (fl : Int) + (pl : Int) := by omega
        have HPK2 : Hid (out ++ (packs n (some ++ [x]) (l.drop (i + 1))).map (batch n) = answers n l) := by
          have := HPK.out
          rw [packs_cons, if_neg (by rw [HFL.out, HPL.out]; exact h114)] at this
          exact this
        have l6 : (byRow (some.flatMap (OpR.bytes n))).length = fl := by rw [byRow_len, HFL.out]
        have l3 : (byRow (x.bytes n)).length = pl := by rw [byRow_len, HPL.out]
        have hR6a := hR6
        clear HPK hR3 hR3b hR6
        go_wp2_with (at_builtin; refine wpList_row Tryz.underlying69 infoU8 rfl (by decide) rfl _ _ rfl _ _ rfl hR6a _ _ rfl hs3 (byRow_one _) (byRow_cell _) (by unfold maxLen; omega) (by omega) ?_; intro v6 w6 hR6' hg6 hat6)
        rw [← byRow_append] at hR6'
        go_roundg (l.length - (i + 1))
        case measure => omega
        case rel =>
          have hR5'' : RowAt 9 1 u5 (strRow out) w6 := hR5.kept (fun g hg => hg6.block g (hR5.lt hg) (fun q => hR6a.ne hR5 (by decide) q.symm hg))
          refine ⟨i + 1, out, some ++ [x], by go_num, by omega, rfl, by simp, by simp; omega, ?_, by omega, HPK2, hR5'', by simpa using hR6', ((Fr.ofGrown hG).grown hg6 (fun k hk => .inr (hO6 k hk)) : Fr [] w w6).toGrown, hO5, fun g hg => ?_⟩
          · intro y hy
            rcases List.mem_append.1 hy with hy | hy
            · exact hso y hy
            · simp at hy; subst hy; exact hxo
          · rcases hat6 with hat | hat
            · exact hO6 g (hat ▸ hg)
            · rw [hat] at hg; cases hg; exact hsz
    · obtain rfl : i = l.length := by omega
      have hfin := hP.out
      rw [List.drop_length] at hfin
      have HFN := hide hfin
      clear hfin hP
      have hfl := flat_len_op h8 some hso
      by_cases hz : some.length = 0
      · have hzi : ¬ (0 : Int) < (some.length : Int) := by omega
        have he : out = answers n l := by
          have := HFN.out
          simpa [packs, hz] using this
        have HE := hide he
        clear he
        go_wp2_with fail
        go_ret
        exact ⟨_, rfl, by rw [← HE.out]; exact hR5, hG, hO5⟩
      · have hzi : (0 : Int) < (some.length : Int) := by omega
        have he : out ++ [batch n some] = answers n l := by
          have := HFN.out
          simpa [packs, hz] using this
        have HE := hide he
        clear he HFN
        obtain ⟨a6, c6, rfl, -⟩ := hR6.value
        rw [byRow_len] at hR6 ⊢
        have HW := hide (writeBatP some.length (by omega) (some.flatMap (OpR.bytes n)) (by omega) _ wr hR6)
        have HBT : Hid (sealB (66 :: (vb some.length ++ some.flatMap (OpR.bytes n))) = batch n some) := rfl
        rw [HBT.out] at HW
        clear HBT
        generalize hbt : batch n some = bt at HW HE
        clear hbt hR6 hO6
        generalize (some.flatMap (OpR.bytes n)).length = fl at HW ⊢
        go_wp2_with fail
        refine HW.out.mono ?_
        rintro e w4 ⟨rfl, g4⟩
        have g5 : w4.grownBy (w4.alloc (.cells #[str bt] 9)) none := grown_alloc (grown_refl _) _
        have hS5 : SrcAt (w4.alloc (.cells #[str bt] 9)) (.slice (.some ⟨w4.heap.size, 0, none⟩) 1 1) (strRow [bt]) := src_new w4 [str bt] _
        have hR5a := hR5.grown (grown_trans g4 g5)
        have hG5 := grown_trans hG (grown_trans g4 g5)
        have lo : (strRow out).length ≤ 1000 := by rw [strRow_len]; omega
        have l1 : (strRow [bt]).length = 1 := rfl
        go_wp2_with (at_builtin; refine wpList_row Tryz.underlying26 infoStr rfl (by decide) rfl _ _ rfl u5 _ rfl hR5a _ _ rfl hS5 (strRow_one _) (strRow_cell _) (by unfold maxLen; omega) (by omega) ?_; intro v5 w5 hR5' hg5 hat5)
        rw [← strRow_append] at hR5'
        go_ret
        refine ⟨v5, rfl, by rw [← HE.out]; exact hR5', ((Fr.ofGrown hG5).grown hg5 (fun k hk => .inr (hO5 k hk)) : Fr [] w w5).toGrown, fun g hg => ?_⟩
        rcases hat5 with hat | hat
        · exact hO5 g (hat ▸ hg)
        · rw [hat] at hg; cases hg; exact hG5.size

end Go.Proofs.YtachmkhbbbmioaaGreat

import Derived.Test.YtachmkhbbbmioaaGreatNetF
import Derived.Test.YtachmkhbbbmioaaGreatRefEX
import Derived.Laws.IdiomStrings
import Derived.Test.YtachmkhbbbmioaaGreatFrAX
namespace Go.Proofs.YtachmkhbbbmioaaGreat
open Go.RowKit Go.Shelf

/-- The runes that the laws of package inkwellkeep write. -/
def Run (r : Int) : Prop := 19968 ≤ r ∧ r < 20200

def txtR (rs : List Int) : List UInt8 := rs.flatMap Lib.encodeRune

theorem txt_tx (S : CS) : txt (vis S.L) = txtR (tx S) := by
  unfold txt txtR tx
  rw [List.flatMap_map]

theorem enc3 {r : Int} (h : Run r) : Lib.encodeRune r = [228, UInt8.ofNat (128 + r.toNat / 64 % 64), UInt8.ofNat (128 + r.toNat % 64)] := by
  obtain ⟨h1, h2⟩ := h
  unfold Lib.encodeRune
  rw [Lib.encodeRuneZ_three (by omega)]
  have e1 : (224 + r / 4096).toNat = 228 := by omega
  have e2 : (128 + r / 64 % 64).toNat = 128 + r.toNat / 64 % 64 := by omega
  have e3 : (128 + r % 64).toNat = 128 + r.toNat % 64 := by omega
  simp only [List.map_cons, List.map_nil, e1, e2, e3]
  rfl

theorem get3 (pre post : List UInt8) (a b c : UInt8) : (ByteArray.mk (pre ++ ([a, b, c] ++ post)).toArray).get! (pre.length + 0) = a ∧ (ByteArray.mk (pre ++ ([a, b, c] ++ post)).toArray).get! (pre.length + 1) = b ∧ (ByteArray.mk (pre ++ ([a, b, c] ++ post)).toArray).get! (pre.length + 2) = c := by
  have key : ∀ (k : Nat) (x : UInt8), [a, b, c][k]? = some x → (ByteArray.mk (pre ++ ([a, b, c] ++ post)).toArray).get! (pre.length + k) = x := by
    intro k x hk
    have hlt : k < 3 := (List.getElem?_eq_some_iff.1 hk).1
    have h1 : (pre ++ ([a, b, c] ++ post))[pre.length + k]? = some x := by
      rw [List.getElem?_append_right (by omega), Nat.add_sub_cancel_left, List.getElem?_append_left (by simpa using hlt)]
      exact hk
    show (pre ++ ([a, b, c] ++ post)).toArray[pre.length + k]! = x
    rw [getElem!_def]
    simp only [List.getElem?_toArray]
    rw [h1]
  exact ⟨key 0 a rfl, key 1 b rfl, key 2 c rfl⟩

theorem dec3 (pre post : List UInt8) {r : Int} (h : Run r) : Utf8.decode ⟨(pre ++ (Lib.encodeRune r ++ post)).toArray⟩ pre.length = (r.toNat, 3) := by
  obtain ⟨h1, h2⟩ := h
  rw [enc3 ⟨h1, h2⟩]
  obtain ⟨g0, g1, g2⟩ := get3 pre post 228 (UInt8.ofNat (128 + r.toNat / 64 % 64)) (UInt8.ofNat (128 + r.toNat % 64))
  have n1 : (UInt8.ofNat (128 + r.toNat / 64 % 64)).toNat = 128 + r.toNat / 64 % 64 := by simp; omega
  have n2 : (UInt8.ofNat (128 + r.toNat % 64)).toNat = 128 + r.toNat % 64 := by simp; omega
  have n0 : (228 : UInt8).toNat = 228 := rfl
  have hs : (ByteArray.mk (pre ++ ([228, UInt8.ofNat (128 + r.toNat / 64 % 64), UInt8.ofNat (128 + r.toNat % 64)] ++ post)).toArray).size = pre.length + (3 + post.length) := by
    show (pre ++ _).toArray.size = _
    simp; omega
  unfold Utf8.decode
  simp only [g0, g1, g2, n0, n1, n2, hs]
  have c1 : (decide (pre.length + 1 < pre.length + (3 + post.length)) && (128 + r.toNat / 64 % 64) / 64 == 2) = true := by
    simp only [Bool.and_eq_true, decide_eq_true_eq, beq_iff_eq]; omega
  have c2 : (decide (pre.length + 2 < pre.length + (3 + post.length)) && (128 + r.toNat % 64) / 64 == 2) = true := by
    simp only [Bool.and_eq_true, decide_eq_true_eq, beq_iff_eq]; omega
  have e : (228 : Nat) % 16 * 4096 + (128 + r.toNat / 64 % 64) % 64 * 64 + (128 + r.toNat % 64) % 64 = r.toNat := by omega
  have hv : Utf8.valid (r.toNat : Int) = true := by unfold Utf8.valid; simp; omega
  rw [if_neg (by omega), if_neg (by simp), c1, c2, e, hv]
  rw [if_pos (by decide), if_pos (by simp; omega)]

theorem runesFrom_txt : ∀ (rs : List Int) (pre : List UInt8) (acc : Array Value) (bound : Nat), (∀ r ∈ rs, Run r) → rs.length ≤ bound → Conv.runesFrom ⟨(pre ++ txtR rs).toArray⟩ bound pre.length acc = acc ++ (rs.map (fun r => Value.int .i32 r)).toArray
  | [], pre, acc, 0, _, _ => by simp [Conv.runesFrom]
  | [], pre, acc, b + 1, _, _ => by
    unfold Conv.runesFrom
    rw [if_neg]
    · simp
    · show ¬ pre.length < (pre ++ txtR []).toArray.size
      simp [txtR]
  | r :: rs, pre, acc, 0, _, hb => by simp at hb
  | r :: rs, pre, acc, b + 1, h, hb => by
    have hr := h r (by simp)
    have ht : txtR (r :: rs) = Lib.encodeRune r ++ txtR rs := by simp [txtR]
    have hl : (Lib.encodeRune r).length = 3 := by rw [enc3 hr]; rfl
    unfold Conv.runesFrom
    rw [if_pos, ht, dec3 pre _ hr]
    · simp only
      have := runesFrom_txt rs (pre ++ Lib.encodeRune r) (acc.push (.int .i32 (Int.ofNat r.toNat))) b (fun x hx => h x (by simp [hx])) (by simpa using hb)
      rw [List.append_assoc, List.length_append, hl] at this
      rw [this]
      have e : Int.ofNat r.toNat = r := by have := hr.1; exact Int.toNat_of_nonneg (by omega)
      rw [e]
      simp
    · show pre.length < (pre ++ txtR (r :: rs)).toArray.size
      rw [ht]
      simp
      omega

def runeRow (rs : List Int) : List (List Value) := rs.map fun r => [.int .i32 r]
theorem runeRow_len (rs : List Int) : (runeRow rs).length = rs.length := by simp [runeRow]
theorem runeRow_at {rs : List Int} {i : Nat} {r : Int} (h : rs[i]? = some r) : (runeRow rs)[i]? = some [.int .i32 r] := by simp [runeRow, h]
theorem runeRow_flat (rs : List Int) : (runeRow rs).flatten = rs.map (fun r => Value.int .i32 r) := by
  induction rs with
  | nil => rfl
  | cons a l ih => simp only [runeRow, List.map_cons, List.flatten_cons] at ih ⊢; rw [ih]; rfl

theorem txtR_size (rs : List Int) (h : ∀ r ∈ rs, Run r) : (txtR rs).length = 3 * rs.length := by
  induction rs with
  | nil => rfl
  | cons a l ih =>
    have : (Lib.encodeRune a).length = 3 := by rw [enc3 (h a (by simp))]; rfl
    simp only [txtR, List.flatMap_cons, List.length_append, List.length_cons] at ih ⊢
    rw [ih (fun r hr => h r (by simp [hr])), this]; omega

/-- Other runes, other bytes. -/
theorem txtR_inj : ∀ {a b : List Int}, (∀ r ∈ a, Run r) → (∀ r ∈ b, Run r) → txtR a = txtR b → a = b
  | [], [], _, _, _ => rfl
  | [], y :: b, _, hb, e => by
    have := congrArg List.length e
    rw [txtR_size _ hb] at this
    simp [txtR] at this
  | x :: a, [], ha, _, e => by
    have := congrArg List.length e
    rw [txtR_size _ ha] at this
    simp [txtR] at this
  | x :: a, y :: b, ha, hb, e => by
    have hx := ha x (by simp)
    have hy := hb y (by simp)
    have e1 : Lib.encodeRune x ++ txtR a = Lib.encodeRune y ++ txtR b := by simpa [txtR] using e
    have d1 := dec3 [] (txtR a) hx
    have d2 := dec3 [] (txtR b) hy
    rw [e1, d2] at d1
    simp only [Prod.mk.injEq] at d1
    have hxy : x = y := by have := hx.1; have := hy.1; omega
    subst hxy
    rw [txtR_inj (fun r hr => ha r (by simp [hr])) (fun r hr => hb r (by simp [hr])) (List.append_cancel_left e1)]

set_option maxRecDepth 100000 in
set_option maxHeartbeats 1000000 in
/-- runes: of a text of such runes. -/
theorem runesK (rs : List Int) (h : ∀ r ∈ rs, Run r) (hl : rs.length ≤ 1000000) (w : World) :
    Calls Tryz.prog 25 #[str (txtR rs)] w fun e w' => ∃ v, e = .returned v ∧ RowAt 21 1 v (runeRow rs) w' ∧ (∀ g, v.ownBlock = some g → w.heap.size ≤ g) ∧ w.grownBy w' none := by
  have hrf := runesFrom_txt rs [] #[] (txtR rs).length h (by rw [txtR_size rs h]; omega)
  have hcap := grownCap_ge w rs.length 0 21
  have hcm := grownCap_le_maxLen w rs.length 0 21 (by unfold maxLen; omega)
  have hcap2 : ∃ c, grownCap w rs.length 0 21 = c := ⟨_, rfl⟩
  obtain ⟨c, hc⟩ := hcap2
  rw [hc] at hcap hcm
  have hcv : (convert 9 56 (str (txtR rs))).run Tryz.prog w = .ok (.slice (some ⟨w.heap.size, 0, none⟩) rs.length c) (w.drew.alloc (.cells ((rs.map (fun r => Value.int .i32 r)).toArray ++ Array.replicate (c - rs.length) (.int .i32 0)) 21)) := by
    have e : Conv.runesFrom ⟨(txtR rs).toArray⟩ (ByteArray.mk (txtR rs).toArray).size 0 #[] = (rs.map (fun r => Value.int .i32 r)).toArray := by
      have e1 : (ByteArray.mk (txtR rs).toArray).size = (txtR rs).length := by show (txtR rs).toArray.size = _; simp
      rw [e1]; simpa using hrf
    have := run_runes_of_string (P := Tryz.prog) w 9 56 21 ⟨(txtR rs).toArray⟩ Tryz.underlying9 Tryz.underlying56 Tryz.underlying21 (by rw [e]; simp; omega)
    rw [e] at this
    simp only [List.size_toArray, List.length_map, hc] at this
    exact this
  obtain ⟨w1, hw1⟩ : ∃ w1, w.drew.alloc (.cells ((rs.map (fun r => Value.int .i32 r)).toArray ++ Array.replicate (c - rs.length) (.int .i32 0)) 21) = w1 := ⟨_, rfl⟩
  have hg : w.grownBy w1 none := by rw [← hw1]; exact grown_trans (grown_drew (grown_refl w)) (grown_alloc (grown_refl w.drew) _)
  have hR : RowAt 21 1 (.slice (some ⟨w.heap.size, 0, none⟩) rs.length c) (runeRow rs) w1 := by
    have hb : w1.heap[w.heap.size]? = some (.cells ((rs.map (fun r => Value.int .i32 r)).toArray ++ Array.replicate (c - rs.length) (.int .i32 0)) 21) := by
      rw [← hw1, show w.heap.size = w.drew.heap.size from rfl, heap_alloc_at]; simp
    refine ⟨⟨by rw [runeRow_flat, runeRow_len]; simp, .inr ⟨_, _, _, by rw [runeRow_len], Nat.zero_le _, hb, by rw [runeRow_len]; exact hcap, hcm, by simp; omega, ?_⟩⟩, fun x hx => ?_⟩
    · rw [runeRow_flat, runeRow_len]
      simp only [Array.toList_append, Nat.mul_one]
      rw [List.take_append_of_le_length (by simp), List.take_of_length_le (by simp)]
    · obtain ⟨i, -, rfl⟩ := List.mem_map.1 hx
      rfl
  rw [hw1] at hcv
  clear hw1 hrf hc
  go_enter Tryz.func25, Tryz.ntmps25
  go_wp2_with fail
  go_ret
  exact ⟨_, rfl, hR, fun g hg => by cases hg; exact Nat.le_refl _, hg⟩

/-- Which of n things a raw number speaks of. -/
def pkK (c : Int) (n : Nat) : Nat := (if c < 0 then (-(c + 1)).toNat else c.toNat) % n

theorem pkK_lt (c : Int) {n : Nat} (h : 0 < n) : pkK c n < n := Nat.mod_lt _ h

set_option maxHeartbeats 400000 in
theorem pickK (c : Int) (n : Nat) (hn : 0 < n) (hn2 : n ≤ 1000000000000) (h1 : -9223372036854775808 ≤ c) (h2 : c ≤ 9223372036854775807) (w : World) :
    Calls Tryz.prog 20 #[.int .i64 c, .int .i64 n] w fun e w' => e = .returned (.int .i64 (pkK c n)) ∧ w' = w := by
  have hz : ¬ (n : Int) = 0 := by omega
  by_cases hc : c < 0
  · go_enter Tryz.func20, Tryz.ntmps20
    go_wp2
    go_ret
    refine ⟨?_, rfl⟩
    show Ending.returned (.int .i64 (-((c + 1).tmod ↑n))) = _
    have e : -((c + 1).tmod ↑n) = ((pkK c n : Nat) : Int) := by
      unfold pkK
      rw [if_pos hc]
      generalize hk : (-(c + 1)).toNat = k
      have e2 : c + 1 = -(k : Int) := by omega
      rw [e2, Int.neg_tmod, Int.neg_neg, Int.ofNat_tmod]
    rw [e]
  · go_enter Tryz.func20, Tryz.ntmps20
    go_wp2
    go_ret
    refine ⟨?_, rfl⟩
    show Ending.returned (.int .i64 (c % ↑n)) = _
    have e : c % ↑n = ((pkK c n : Nat) : Int) := by
      unfold pkK
      rw [if_neg (by omega)]
      obtain ⟨k, rfl⟩ := Int.eq_ofNat_of_zero_le (show 0 ≤ c by omega)
      simp
    rw [e]

/-- Where a rune stands. -/
def atI : List Int → Int → Nat → Int
  | [], _, _ => -1
  | x :: l, r, i => if x = r then (i : Int) else atI l r (i + 1)

theorem atI_out {r : Int} : ∀ {l : List Int} {i : Nat}, r ∉ l → atI l r i = -1
  | [], _, _ => rfl
  | x :: l, i, h => by
    unfold atI
    rw [if_neg (fun q => h (by simp [q])), atI_out (fun q => h (by simp [q]))]

theorem atI_in {r : Int} : ∀ {l : List Int} {i : Nat}, r ∈ l → ∃ k : Nat, atI l r i = (i : Int) + (k : Int) ∧ l[k]? = some r ∧ ∀ j, j < k → l[j]? ≠ some r
  | [], _, h => by cases h
  | x :: l, i, h => by
    unfold atI
    by_cases q : x = r
    · exact ⟨0, by rw [if_pos q]; simp, by simp [q], fun j hj => by omega⟩
    · rw [if_neg q]
      obtain ⟨k, h1, h2, h3⟩ := atI_in (i := i + 1) (List.mem_of_ne_of_mem (fun e => q e.symm) h)
      refine ⟨k + 1, by rw [h1]; omega, by simpa using h2, fun j hj => ?_⟩
      cases j with
      | zero => simp [q]
      | succ j => simpa using h3 j (by omega)

theorem atI_cut {l : List Int} {r : Int} {k : Nat} (h : l[k]? = some r) (hn : ∀ j, j < k → l[j]? ≠ some r) : atI l r 0 = k := by
  obtain ⟨k', h1, h2, h3⟩ := atI_in (i := 0) (List.mem_of_getElem? h)
  rw [h1]
  rcases Nat.lt_trichotomy k k' with q | q | q
  · exact (h3 k q h).elim
  · omega
  · exact (hn k' q h2).elim

set_option maxRecDepth 100000 in
set_option maxHeartbeats 1000000 in
theorem atK (rs : List Int) (hl : rs.length ≤ 1000000) (r : Int) (v : Value) (w : World) (hv : RowAt 21 1 v (runeRow rs) w) :
    Calls Tryz.prog 29 #[v, .int .i32 r] w fun e w' => e = .returned (.int .i64 (atI rs r 0)) ∧ w' = w := by
  obtain ⟨av, cv, rfl, hcv⟩ := hv.value
  rw [runeRow_len] at hcv ⊢
  go_enter Tryz.func29, Tryz.ntmps29
  go_wp2_with fail
  go_loopg [5] rs.length (fun gk s5 wr => ∃ (i : Nat), s5 = .int .i64 i ∧ i ≤ rs.length ∧ gk = rs.length - i ∧ (∀ j, j < i → rs[j]? ≠ some r) ∧ wr = w)
  case atStart => exact ⟨0, rfl, by omega, rfl, fun j hj => by omega, rfl⟩
  case round =>
    obtain ⟨i, rfl, hi, hgk, hno, rfl⟩ := hrel
    by_cases hlt : i < rs.length
    · have hli : (i : Int) < (rs.length : Int) := by omega
      obtain ⟨y, hy⟩ : ∃ y, rs[i]? = some y := ⟨rs[i], by simp [hlt]⟩
      obtain ⟨g1, c1, cur1, hv1, -, hb1, hx1⟩ := hv.cell (i := i) (runeRow_at hy)
      rw [runeRow_len] at hv1
      cases hv1
      have k1 : wr.cell? ⟨g1, i, none⟩ = some (.int .i32 y) := (cell_blk hb1 _).trans (by simpa using hx1 0 _ rfl)
      clear hx1 hb1
      by_cases q : y = r
      · subst q
        have hcut := hide (atI_cut hy hno)
        have hq : (y == y) = true := by simp
        go_wp2_with fail
        go_ret
        exact ⟨by rw [hcut.out]; rfl, rfl⟩
      · have hq : (y == r) = false := by simp [q]
        go_wp2_with fail
        go_roundg (rs.length - (i + 1))
        case measure => omega
        case rel => exact ⟨i + 1, by go_num, by omega, rfl, fun j hj => by
          by_cases q2 : j = i
          · rw [q2, hy]; simpa using q
          · exact hno j (by omega), rfl⟩
    · have hli : ¬ (i : Int) < (rs.length : Int) := by omega
      have ho : atI rs r 0 = -1 := atI_out (fun q => by
        obtain ⟨k, hk, e⟩ := List.getElem_of_mem q
        exact hno k (by omega) (by rw [← e]; simp [hk]))
      have HO := hide ho
      clear ho
      go_wp2_with fail
      go_ret
      exact ⟨by rw [HO.out]; rfl, rfl⟩

end Go.Proofs.YtachmkhbbbmioaaGreat

namespace Go.Proofs.YtachmkhbbbmioaaGreat
open Go.RowKit Go.Shelf

theorem Fr.after {bs cs : List Nat} {a w w' : World} (h : Fr bs a w) (k : Fr cs w w') (hc : ∀ x ∈ cs, x ∈ bs ∨ a.heap.size ≤ x) : Fr bs a w' :=
  ⟨k.os.trans h.os, k.tape.trans h.tape, k.output.trans h.output, Nat.le_trans h.size k.size, fun i hi hn => (k.block i (Nat.lt_of_lt_of_le hi h.size) (fun q => by
    rcases hc i q with q | q
    · exact hn q
    · omega)).trans (h.block i hi hn)⟩
theorem Fr.toGrown {w w' : World} (h : Fr [] w w') : w.grownBy w' none := ⟨h.os, h.tape, h.output, h.size, fun k hk _ => h.block k hk (by simp)⟩
theorem Fr.ofGrown {bs : List Nat} {w w' : World} (h : w.grownBy w' none) : Fr bs w w' := (Fr.refl _ w).grown h (by simp)

/-- A list of bytes of one's own can be sealed. -/
theorem row_seal {v : Value} {l : List UInt8} {w : World} (h : RowAt 5 1 v (byRow l) w) (hl : 0 < l.length) :
    ∃ g cap, v = .slice (some ⟨g, 0, none⟩) l.length cap ∧ (∀ j b, l[j]? = some b → w.cell? ⟨g, j, none⟩ = some (.int .u8 (b.toNat : Int))) ∧ g < w.heap.size ∧ (l.length + 4 ≤ cap → ∀ j, j < 4 → (w.cell? ⟨g, l.length + j, none⟩).isSome = true ∧ w.frozen? ⟨g, l.length + j, none⟩ = false) := by
  rcases h.1.2 with ⟨-, h0⟩ | ⟨g, cap, cur, rfl, -, hb, -, -, hsz, -⟩
  · rw [byRow_len] at h0; omega
  · rw [byRow_len]
    refine ⟨g, cap, rfl, fun j b hj => ?_, lt_of_heap hb, fun hc j hj => ⟨?_, frozen_blk hb _⟩⟩
    · obtain ⟨g', cap', cur', hv, -, hb', hx⟩ := h.cell (byRow_at l hj)
      cases hv
      rw [cell_blk hb' j]
      simpa using hx 0 _ rfl
    · rw [cell_blk hb, Array.getElem?_eq_getElem (by omega)]; rfl

theorem row_new (w : World) (x : Int) (h0 : 0 ≤ x) (h1 : x < 256) : RowAt 5 1 (.slice (some ⟨w.heap.size, 0, none⟩) 1 1) (byRow [UInt8.ofNat x.toNat]) (w.alloc (.cells #[.int .u8 x] 5)) := by
  rw [by_of h0 h1]
  refine ⟨⟨rfl, .inr ⟨_, _, _, rfl, Nat.zero_le _, heap_alloc_new _ _, Nat.le_refl _, by unfold maxLen; omega, rfl, rfl⟩⟩, ?_⟩
  intro y hy
  simp at hy
  subst hy
  rfl

set_option maxRecDepth 100000 in
set_option maxHeartbeats 4000000 in
/-- A digest, as the program writes it. -/
theorem writeDigP (n : Nat) (h8 : n ≤ 8) (s : Int) (hs0 : 0 ≤ s) (hs8 : s ≤ 8) (q : Nat → Int) (hq : ∀ i, i < n → 0 ≤ q i ∧ q i ≤ 100) (w : World) :
    Calls Tryz.prog 86 #[.int .i64 n, .int .i64 s, .agg (ckArr q)] w fun e w' => e = .returned (str (digest n s q)) ∧ w.grownBy w' none := by
  have hcl := fun (v : Value) (w' : World) (hv : RowAt 5 1 v (byRow ([68] ++ vbs [s])) w') => appClk v _ n h8 q hq w' hv (by
    have := vb_len9 s (by omega)
    simp only [vbs, List.length_append, List.length_cons, List.length_nil]; omega)
  have HCl := hide hcl
  clear hcl
  have HG : Hid (∀ w1, (w.alloc (.cells (ckArr q) 134)) = w1 → w.grownBy w1 none ∧ w1.heap[w.heap.size]? = some (.cells (ckArr q) 134)) := by
    rintro w1 rfl
    exact ⟨grown_alloc (grown_refl _) _, by rw [heap_alloc_at]; simp⟩
  unfold ckArr at HCl HG ⊢
  go_enter Tryz.func86, Tryz.ntmps86
  go_upto_region 1 with fail
  generalize hw1 : (w.alloc (.cells #[.int .i64 (q 0), .int .i64 (q 1), .int .i64 (q 2), .int .i64 (q 3), .int .i64 (q 4), .int .i64 (q 5), .int .i64 (q 6), .int .i64 (q 7)] 134)) = w1
  obtain ⟨g1, k1⟩ := HG.out w1 hw1
  clear hw1 HG
  have r1 := row_new w1 68 (by omega) (by omega)
  have e68 : [UInt8.ofNat (68 : Int).toNat] = [68] := rfl
  rw [e68] at r1
  have g2 : w1.grownBy ((w1.alloc (.cells #[.int .u8 68] 5)).alloc (.cells #[.int .i64 s] 2)) none := grown_alloc (grown_alloc (grown_refl _) _) _
  have g3 : (w1.alloc (.cells #[.int .u8 68] 5)).grownBy ((w1.alloc (.cells #[.int .u8 68] 5)).alloc (.cells #[.int .i64 s] 2)) none := grown_alloc (grown_refl _) _
  have hb1 : (w1.alloc (.cells #[.int .u8 68] 5)).heap.size = w1.heap.size + 1 := by simp
  have HA := hide (appVar (.slice (some ⟨w1.heap.size, 0, none⟩) 1 1) [68] [s] (w1.alloc (.cells #[.int .u8 68] 5)).heap.size 1 ((w1.alloc (.cells #[.int .u8 68] 5)).alloc (.cells #[.int .i64 s] 2)) (r1.grown g3) (by rw [heap_alloc_at]; simp) (by intro y hy; simp at hy; subst hy; omega) (by simp) (by simp))
  rw [hb1] at HA
  go_wp2_with fail
  refine HA.out.mono ?_
  rintro e w3 ⟨v3, rfl, hR3, hF3, hO3⟩
  have hFA : Fr [] w w3 := ((Fr.ofGrown (grown_trans g1 g2)).after hF3 (fun x hx => .inr (by simp [Value.ownBlock] at hx; have := g1.size; omega)))
  have hown3 : ∀ g, v3.ownBlock = some g → w.heap.size ≤ g := fun g hg => by
    have h1 := g1.size
    have h2 := g2.size
    rcases hO3 g hg with p | p
    · simp [Value.ownBlock] at p; omega
    · omega
  have k3 : w3.heap[w.heap.size]? = some (.cells #[.int .i64 (q 0), .int .i64 (q 1), .int .i64 (q 2), .int .i64 (q 3), .int .i64 (q 4), .int .i64 (q 5), .int .i64 (q 6), .int .i64 (q 7)] 134) := hF3.blk ((g2.block _ (lt_of_heap k1) (by simp)).trans k1) (by have := lt_of_heap k1; simp [Value.ownBlock]; omega)
  have d0 : w3.cell? ⟨w.heap.size, 0, none⟩ = some (.int .i64 (q 0)) := cell_blk k3 0
  have d1 : w3.cell? ⟨w.heap.size, 1, none⟩ = some (.int .i64 (q 1)) := cell_blk k3 1
  have d2 : w3.cell? ⟨w.heap.size, 2, none⟩ = some (.int .i64 (q 2)) := cell_blk k3 2
  have d3 : w3.cell? ⟨w.heap.size, 3, none⟩ = some (.int .i64 (q 3)) := cell_blk k3 3
  have d4 : w3.cell? ⟨w.heap.size, 4, none⟩ = some (.int .i64 (q 4)) := cell_blk k3 4
  have d5 : w3.cell? ⟨w.heap.size, 5, none⟩ = some (.int .i64 (q 5)) := cell_blk k3 5
  have d6 : w3.cell? ⟨w.heap.size, 6, none⟩ = some (.int .i64 (q 6)) := cell_blk k3 6
  have d7 : w3.cell? ⟨w.heap.size, 7, none⟩ = some (.int .i64 (q 7)) := cell_blk k3 7
  have HR := hide hR3
  clear hR3 r1 g1 g2 g3 HA hF3 hb1 k1
  go_wp2_with fail
  refine (HCl.out v3 w3 HR.out).mono ?_
  rintro e w4 ⟨v4, rfl, hR4, hF4, hO4⟩
  have hFB : Fr [] w w4 := hFA.after hF4 (fun x hx => .inr (hown3 x (by simpa using hx)))
  have hlen : ([68] ++ vbs [s] ++ vbs (clk n q)).length ≤ 1000000 := by
    have := vb_len9 s (by omega)
    have h2 := vbs_len (clk n q) (fun y hy => by
      obtain ⟨i, hi, rfl⟩ := List.mem_map.1 hy
      have := hq i (List.mem_range.1 hi)
      omega)
    rw [clk_len] at h2
    simp only [vbs, List.length_append, List.length_cons, List.length_nil]; omega
  obtain ⟨g4, c4, rfl, hc4, hlt4, hsp4⟩ := row_seal hR4 (by simp)
  have HS := hide (sealP g4 c4 _ hlen w4 hc4 hlt4 hsp4)
  have hfin : [68] ++ vbs [s] ++ vbs (clk n q) = 68 :: vbs (s :: clk n q) := by simp [vbs]
  rw [hfin] at HS ⊢
  generalize hm : 68 :: vbs (s :: clk n q) = m at HS
  have hd : digest n s q = sealB m := by unfold digest; rw [hm]
  have HD := hide hd
  clear hm hd hc4 hsp4 hR4 hfin hlen
  have hown4 : w.heap.size ≤ g4 := by
    rcases hO4 g4 rfl with p | p
    · exact hown3 g4 p
    · have := hFA.size; omega
  generalize m.length = ml at HS ⊢
  go_wp2_with fail
  refine HS.out.mono ?_
  rintro e w5 ⟨rfl, hF5⟩
  go_wp2_with fail
  go_ret
  rw [HD.out]
  exact ⟨rfl, (hFB.after hF5 (fun x hx => .inr (by simp at hx; omega))).toGrown⟩

end Go.Proofs.YtachmkhbbbmioaaGreat

namespace Go.Proofs.YtachmkhbbbmioaaGreat
open Go.RowKit Go.Shelf

set_option maxRecDepth 100000 in
set_option maxHeartbeats 4000000 in
theorem appOp (n : Nat) (h8 : n ≤ 8) (x : OpR) (hx : OpOk n x) (w : World) :
    Calls Tryz.prog 128 #[.slice none 0 0, .int .i64 n, .agg (opArr x.o x.num x.c x.kind x.tc x.tk x.r x.q)] w fun e w' => ∃ v', e = .returned v' ∧ RowAt 5 1 v' (byRow (x.bytes n)) w' ∧ w.grownBy w' none ∧ (∀ g, v'.ownBlock = some g → w.heap.size ≤ g) := by
  obtain ⟨b0, b1, b2, b3, b4, b5, b6, b7⟩ := hx
  have HG : Hid (∀ w1, (w.alloc (.cells (opArr x.o x.num x.c x.kind x.tc x.tk x.r x.q) 154)) = w1 → w.grownBy w1 none ∧ w1.heap[w.heap.size]? = some (.cells (opArr x.o x.num x.c x.kind x.tc x.tk x.r x.q) 154)) := by
    rintro w1 rfl
    exact ⟨grown_alloc (grown_refl _) _, by rw [heap_alloc_at]; simp⟩
  have hcl := fun (v : Value) (l : List UInt8) (hl : l.length ≤ 90000) (w' : World) (hv : RowAt 5 1 v (byRow l) w') => appClk v l n h8 x.q (fun i hi => b7 i (by omega)) w' hv hl
  have HCl := hide hcl
  clear hcl
  unfold ckArr at HCl
  unfold opArr at HG ⊢
  go_enter Tryz.func128, Tryz.ntmps128
  go_upto_region 1 with fail
  generalize hw1 : (w.alloc (.cells #[.int .i64 x.o, .int .i64 x.num, .int .i64 x.c, .int .i64 x.kind, .int .i64 x.tc, .int .i64 x.tk, .int .i32 x.r, .int .i64 (x.q 0), .int .i64 (x.q 1), .int .i64 (x.q 2), .int .i64 (x.q 3), .int .i64 (x.q 4), .int .i64 (x.q 5), .int .i64 (x.q 6), .int .i64 (x.q 7)] 154)) = w1
  obtain ⟨g1, k1⟩ := HG.out w1 hw1
  clear hw1 HG
  generalize hbb : w.heap.size = bb at k1 ⊢
  have c0 : w1.cell? ⟨bb, 0, none⟩ = some (.int .i64 x.o) := cell_blk k1 0
  have c1 : w1.cell? ⟨bb, 1, none⟩ = some (.int .i64 x.num) := cell_blk k1 1
  have c2 : w1.cell? ⟨bb, 2, none⟩ = some (.int .i64 x.c) := cell_blk k1 2
  have c3 : w1.cell? ⟨bb, 3, none⟩ = some (.int .i64 x.kind) := cell_blk k1 3
  have c4 : w1.cell? ⟨bb, 4, none⟩ = some (.int .i64 x.tc) := cell_blk k1 4
  have c5 : w1.cell? ⟨bb, 5, none⟩ = some (.int .i64 x.tk) := cell_blk k1 5
  have g2 : w1.grownBy (w1.alloc (.cells #[.int .i64 x.o, .int .i64 x.num, .int .i64 x.c, .int .i64 x.kind, .int .i64 x.tc, .int .i64 x.tk] 2)) none := grown_alloc (grown_refl _) _
  have HA := hide (appVar (.slice none 0 0) [] [x.o, x.num, x.c, x.kind, x.tc, x.tk] w1.heap.size 6 (w1.alloc (.cells #[.int .i64 x.o, .int .i64 x.num, .int .i64 x.c, .int .i64 x.kind, .int .i64 x.tc, .int .i64 x.tk] 2)) (row_nil _ _ _) (by rw [heap_alloc_at]; simp) (by intro y hy; simp only [List.mem_cons, List.not_mem_nil, or_false] at hy; omega) (by simp) (by simp))
  rw [List.nil_append] at HA
  go_wp2_with fail
  refine HA.out.mono ?_
  rintro e w3 ⟨v3, rfl, hR3, hF3, hO3⟩
  have hF3' : Fr [] w w3 := (Fr.ofGrown (grown_trans g1 g2)).after hF3 (by simp [Value.ownBlock])
  have hown3 : ∀ g, v3.ownBlock = some g → bb < g := fun g hg => by
    have h1 := lt_of_heap k1
    have h2 := g2.size
    rcases hO3 g hg with p | p
    · cases p
    · omega
  have k3 := hF3.blk ((g2.block _ (lt_of_heap k1) (by simp)).trans k1) (by simp [Value.ownBlock])
  clear c0 c1 c2 c3 c4 c5 g1 g2 HA hF3 hO3 k1
  have l3 := vbs_len [x.o, x.num, x.c, x.kind, x.tc, x.tk] (by intro y hy; simp only [List.mem_cons, List.not_mem_nil, or_false] at hy; omega)
  simp only [List.length_cons, List.length_nil] at l3
  have HB : Hid (x.bytes n = vbs [x.o, x.num, x.c, x.kind, x.tc, x.tk] ++ vbs (if x.kind = 0 then [x.r] else []) ++ vbs (clk n x.q)) := by
    show x.bytes n = _
    unfold OpR.bytes OpR.nums
    rw [vbs_append]
  generalize vbs [x.o, x.num, x.c, x.kind, x.tc, x.tk] = l6 at hR3 l3 HB
  have c3 : w3.cell? ⟨bb, 3, none⟩ = some (.int .i64 x.kind) := cell_blk k3 3
  have HR := hide hR3
  clear hR3
  -- the clock
  have fin : ∀ (w4 : World) (v4 : Value) (l4 : List UInt8), l4.length ≤ 90000 → RowAt 5 1 v4 (byRow l4) w4 → Fr [] w w4 → (∀ g, v4.ownBlock = some g → bb < g) →
      Calls Tryz.prog 124 #[v4, .int .i64 n, .agg #[.int .i64 (x.q 0), .int .i64 (x.q 1), .int .i64 (x.q 2), .int .i64 (x.q 3), .int .i64 (x.q 4), .int .i64 (x.q 5), .int .i64 (x.q 6), .int .i64 (x.q 7)]] w4 fun e w' => ∃ v', e = .returned v' ∧ RowAt 5 1 v' (byRow (l4 ++ vbs (clk n x.q))) w' ∧ w.grownBy w' none ∧ (∀ g, v'.ownBlock = some g → w.heap.size ≤ g) := by
    intro w4 v4 l4 hl4 hR4 hF4 hO4
    refine (HCl.out v4 l4 hl4 w4 hR4).mono ?_
    rintro e w5 ⟨v5, rfl, hR5, hF5, hO5⟩
    refine ⟨v5, rfl, hR5, (hF4.after hF5 (fun y hy => .inr (by have := hO4 y (by simpa using hy); omega))).toGrown, fun g hg => ?_⟩
    rcases hO5 g hg with p | p
    · have := hO4 g p; omega
    · have := hF4.size; omega
  have FIN := hide fin
  clear fin HCl
  have e7 := fun (W : World) (hW : W.heap[bb]? = some (.cells #[.int .i64 x.o, .int .i64 x.num, .int .i64 x.c, .int .i64 x.kind, .int .i64 x.tc, .int .i64 x.tk, .int .i32 x.r, .int .i64 (x.q 0), .int .i64 (x.q 1), .int .i64 (x.q 2), .int .i64 (x.q 3), .int .i64 (x.q 4), .int .i64 (x.q 5), .int .i64 (x.q 6), .int .i64 (x.q 7)] 154)) =>
    (⟨cell_blk hW 7, cell_blk hW 8, cell_blk hW 9, cell_blk hW 10, cell_blk hW 11, cell_blk hW 12, cell_blk hW 13, cell_blk hW 14⟩ : W.cell? ⟨bb, 7, none⟩ = some (.int .i64 (x.q 0)) ∧ W.cell? ⟨bb, 8, none⟩ = some (.int .i64 (x.q 1)) ∧ W.cell? ⟨bb, 9, none⟩ = some (.int .i64 (x.q 2)) ∧ W.cell? ⟨bb, 10, none⟩ = some (.int .i64 (x.q 3)) ∧ W.cell? ⟨bb, 11, none⟩ = some (.int .i64 (x.q 4)) ∧ W.cell? ⟨bb, 12, none⟩ = some (.int .i64 (x.q 5)) ∧ W.cell? ⟨bb, 13, none⟩ = some (.int .i64 (x.q 6)) ∧ W.cell? ⟨bb, 14, none⟩ = some (.int .i64 (x.q 7)))
  rcases b3 with hk0 | hk1
  · have hb : x.bytes n = l6 ++ vbs [x.r] ++ vbs (clk n x.q) := by rw [HB.out, if_pos hk0]
    have HBB := hide hb
    rw [hk0] at c3
    have c6 : w3.cell? ⟨bb, 6, none⟩ = some (.int .i32 x.r) := cell_blk k3 6
    have hwr : IntKind.i64.wrap x.r = x.r := by rw [IntKind.wrap_i64]; omega
    have g4 : w3.grownBy (w3.alloc (.cells #[.int .i64 x.r] 2)) none := grown_alloc (grown_refl _) _
    have HA := hide (appVar v3 l6 [x.r] w3.heap.size 1 (w3.alloc (.cells #[.int .i64 x.r] 2)) (HR.out.grown g4) (by rw [heap_alloc_at]; simp) (by intro y hy; simp at hy; subst hy; omega) (by omega) (by simp))
    have lr := vb_len9 x.r (by omega)
    have HLL : Hid ((l6 ++ vbs [x.r]).length ≤ 90000) := by
      show (l6 ++ vbs [x.r]).length ≤ 90000
      simp only [vbs, List.length_append, List.length_nil]; omega
    clear hb hk0 lr l3 HB
    go_wp2_with fail
    refine HA.out.mono ?_
    rintro e w4 ⟨v4, rfl, hR4, hF4, hO4⟩
    have k4 := hF4.blk ((g4.block _ (lt_of_heap k3) (by simp)).trans k3) (fun p => by have := hown3 bb (by simpa using p); omega)
    obtain ⟨f7, f8, f9, f10, f11, f12, f13, f14⟩ := e7 w4 k4
    have hFB : Fr [] w w4 := (hF3'.grown g4 (by simp)).after hF4 (fun y hy => .inr (by have := hown3 y (by simpa using hy); omega))
    have hO4' : ∀ g, v4.ownBlock = some g → bb < g := fun g hg => by
      rcases hO4 g hg with p | p
      · exact hown3 g p
      · have := lt_of_heap k3; have := g4.size; omega
    have HR4 := hide hR4
    clear hR4 HA hF4 hO4 e7 c3 c6 g4 k3 k4 hF3' hown3 HR
    generalize l6 ++ vbs [x.r] = l7 at HLL HR4 HBB
    go_wp2_with fail
    refine (FIN.out w4 v4 l7 HLL.out HR4.out hFB hO4').mono ?_
    rintro e w5 ⟨v5, rfl, h5⟩
    go_wp2_with fail
    go_ret
    rw [HBB.out]
    exact ⟨_, rfl, h5⟩
  · have hb : x.bytes n = l6 ++ vbs (clk n x.q) := by rw [HB.out, if_neg (by omega)]; simp [vbs]
    have HBB := hide hb
    rw [hk1] at c3
    obtain ⟨f7, f8, f9, f10, f11, f12, f13, f14⟩ := e7 w3 k3
    have hl6 : l6.length ≤ 90000 := by omega
    clear hb hk1 l3 HB e7 k3
    go_wp2_with fail
    refine (FIN.out w3 v3 l6 hl6 HR.out hF3' hown3).mono ?_
    rintro e w5 ⟨v5, rfl, h5⟩
    go_wp2_with fail
    go_ret
    rw [HBB.out]
    exact ⟨_, rfl, h5⟩

set_option maxRecDepth 100000 in
set_option maxHeartbeats 4000000 in
theorem writeBatP (k : Nat) (hk : k ≤ 100000) (bs : List UInt8) (hbs : bs.length ≤ 200000) (vb0 : Value) (w : World) (hv : RowAt 5 1 vb0 (byRow bs) w) :
    Calls Tryz.prog 129 #[.int .i64 k, vb0] w fun e w' => e = .returned (str (sealB (66 :: (vb k ++ bs)))) ∧ w.grownBy w' none := by
  have r1 := row_new w 66 (by omega) (by omega)
  have e66 : [UInt8.ofNat (66 : Int).toNat] = [66] := rfl
  rw [e66] at r1
  have g2 : w.grownBy ((w.alloc (.cells #[.int .u8 66] 5)).alloc (.cells #[.int .i64 k] 2)) none := grown_alloc (grown_alloc (grown_refl _) _) _
  have g3 : (w.alloc (.cells #[.int .u8 66] 5)).grownBy ((w.alloc (.cells #[.int .u8 66] 5)).alloc (.cells #[.int .i64 k] 2)) none := grown_alloc (grown_refl _) _
  have hb1 : (w.alloc (.cells #[.int .u8 66] 5)).heap.size = w.heap.size + 1 := by simp
  have HA := hide (appVar (.slice (some ⟨w.heap.size, 0, none⟩) 1 1) [66] [(k : Int)] (w.alloc (.cells #[.int .u8 66] 5)).heap.size 1 ((w.alloc (.cells #[.int .u8 66] 5)).alloc (.cells #[.int .i64 k] 2)) (r1.grown g3) (by rw [heap_alloc_at]; simp) (by intro y hy; simp at hy; subst hy; omega) (by simp) (by simp))
  rw [hb1] at HA
  have lk := vb_len9 (k : Int) (by omega)
  have ek : [66] ++ vbs [(k : Int)] = 66 :: vb k := by simp [vbs]
  rw [ek] at HA
  rw [Int.toNat_natCast] at lk
  obtain ⟨av, cv, rfl, -⟩ := hv.value
  rw [byRow_len] at hv ⊢
  go_enter Tryz.func129, Tryz.ntmps129
  go_wp2_with fail
  refine HA.out.mono ?_
  rintro e w3 ⟨v3, rfl, hR3, hF3, hO3⟩
  have hFA : Fr [] w w3 := (Fr.ofGrown g2).after hF3 (fun x hx => .inr (by simp [Value.ownBlock] at hx; omega))
  have hown3 : ∀ g, v3.ownBlock = some g → w.heap.size ≤ g := fun g hg => by
    have h2 := g2.size
    rcases hO3 g hg with p | p
    · simp [Value.ownBlock] at p; omega
    · omega
  have hv3 : RowAt 5 1 (.slice av bs.length cv) (byRow bs) w3 := hv.kept (fun g hg => hFA.block g (hv.lt hg) (by simp))
  have hs3 := hv3.src
  have l3 : (byRow (66 :: vb k)).length ≤ 20 := by rw [byRow_len]; simp; omega
  have lb : (byRow bs).length ≤ 200000 := by rw [byRow_len]; exact hbs
  clear HA hF3 r1 g2 g3 hb1
  go_wp2_with (at_builtin; refine wpList_row Tryz.underlying69 infoU8 rfl (by decide) rfl _ _ rfl v3 _ rfl hR3 _ _ rfl hs3 (byRow_one _) (byRow_cell _) (by unfold maxLen; omega) (by omega) ?_; intro v4 w4 hR4 hg4 hat)
  rw [← byRow_append] at hR4
  have hFB : Fr [] w w4 := hFA.grown hg4 (fun g hg => .inr (hown3 g hg))
  have hown4 : ∀ g, v4.ownBlock = some g → w.heap.size ≤ g := fun g hg => by
    rcases hat with hat | hat
    · exact hown3 g (hat ▸ hg)
    · rw [hat] at hg; cases hg; exact hFA.size
  obtain ⟨g4, c4, rfl, hc4, hlt4, hsp4⟩ := row_seal hR4 (by simp)
  have hlen : (66 :: vb k ++ bs).length ≤ 1000000 := by
    simp only [List.length_append, List.length_cons]; omega
  have HS := hide (sealP g4 c4 _ hlen w4 hc4 hlt4 hsp4)
  have hfin : 66 :: vb k ++ bs = 66 :: (vb k ++ bs) := rfl
  rw [hfin] at HS ⊢
  generalize hm : 66 :: (vb k ++ bs) = m at HS ⊢
  have HM := hide hm
  clear hm
  have h4 := hown4 g4 rfl
  clear hc4 hsp4 hR4 hs3 hR3 hv3
  generalize m.length = ml at HS ⊢
  go_wp2_with fail
  refine HS.out.mono ?_
  rintro e w5 ⟨rfl, hF5⟩
  go_wp2_with fail
  go_ret
  rw [HM.out]
  exact ⟨rfl, (hFB.after hF5 (fun x hx => .inr (by simp at hx; omega))).toGrown⟩

end Go.Proofs.YtachmkhbbbmioaaGreat

namespace Go.Proofs.YtachmkhbbbmioaaGreat
open Go.RowKit Go.Shelf

theorem clk_mem {n : Nat} {q : Nat → Int} {y : Int} (h : y ∈ clk n q) : ∃ i, i < n ∧ y = q i := by
  obtain ⟨i, hi, rfl⟩ := List.mem_map.1 h
  exact ⟨i, List.mem_range.1 hi, rfl⟩

set_option maxRecDepth 100000 in
set_option maxHeartbeats 4000000 in
/-- A digest, as the document writes it. -/
theorem writeDigN (s : Int) (hs0 : 0 < s) (hs8 : s < 9223372036854775808) (n : Nat) (h8 : n ≤ 8) (q : Nat → Int) (hq : ∀ i, i < n → 0 ≤ q i ∧ q i < 9223372036854775808) (vk vo : Value) (w : World) (hk : RowAt 3 1 vk (intRow (clk n q)) w) :
    Calls Tryz.prog 42 #[.agg #[.int .i64 s, vk, vo]] w fun e w' => e = .returned (str (digest n s q)) ∧ w.grownBy w' none := by
  have hcq : ∀ y ∈ clk n q, 0 ≤ y ∧ y < 9223372036854775808 := fun y hy => by
    obtain ⟨i, hi, rfl⟩ := clk_mem hy
    have := hq i hi
    omega
  obtain ⟨ak, ck, rfl, -⟩ := hk.value
  rw [intRow_len, clk_len] at hk ⊢
  go_enter Tryz.func42, Tryz.ntmps42
  go_upto_region 2 with fail
  have g1 : w.grownBy (w.alloc (.cells #[.int .i64 s, .slice ak n ck, vo] 84)) none := grown_alloc (grown_refl _) _
  have k1 : (w.alloc (.cells #[.int .i64 s, .slice ak n ck, vo] 84)).heap[w.heap.size]? = some (.cells #[.int .i64 s, .slice ak n ck, vo] 84) := by rw [heap_alloc_at]; simp
  generalize (w.alloc (.cells #[.int .i64 s, .slice ak n ck, vo] 84)) = w1 at g1 k1 ⊢
  generalize w.heap.size = bb at k1 ⊢
  have c0 : w1.cell? ⟨bb, 0, none⟩ = some (.int .i64 s) := cell_blk k1 0
  have c1 : w1.cell? ⟨bb, 1, none⟩ = some (.slice ak n ck) := cell_blk k1 1
  have l0 := vb_len9 s (by omega)
  have lq := vbs_len (clk n q) (fun y hy => (hcq y hy).2)
  rw [clk_len] at lq
  obtain ⟨v0, hv0⟩ : ∃ m, vb s.toNat = m := ⟨_, rfl⟩
  obtain ⟨v1, hv1⟩ : ∃ m, vbs (clk n q) = m := ⟨_, rfl⟩
  obtain ⟨m1, e1⟩ : ∃ m, [68] ++ v0 = m := ⟨_, rfl⟩
  obtain ⟨m2, e2⟩ : ∃ m, m1 ++ v1 = m := ⟨_, rfl⟩
  rw [hv0] at l0
  rw [hv1] at lq
  have q1 := len_of e1
  have q2 := len_of e2
  simp only [List.length_cons, List.length_nil] at q1
  have a1 := sadd' e1 (by simp; omega)
  have a2 := sadd' e2 (by omega)
  have E : Hid (m2 = 68 :: vbs (s :: clk n q)) := by
    show m2 = 68 :: vbs (s :: clk n q)
    rw [← e2, ← e1, ← hv0, ← hv1]; rfl
  have L2 : m2.length ≤ 100 := by omega
  have hV : ∀ W, w1.grownBy W none → Calls Tryz.prog 73 #[.int .i64 s] W fun e w' => e = .returned (str v0) ∧ w1.grownBy w' none := fun W hW => by
    refine (varintR s (by omega) (by omega) W).mono ?_
    rintro e w' ⟨rfl, hg⟩
    exact ⟨by rw [hv0], grown_trans hW hg⟩
  have hN : ∀ W, w1.grownBy W none → Calls Tryz.prog 74 #[.slice ak n ck] W fun e w' => e = .returned (str v1) ∧ w1.grownBy w' none := fun W hW => by
    refine (numbersR (clk n q) hcq (by rw [clk_len]; omega) (.slice ak n ck) W (hk.grown (grown_trans g1 hW))).mono ?_
    rintro e w' ⟨rfl, hg⟩
    exact ⟨by rw [hv1], grown_trans hW hg⟩
  have HV := hide hV
  have HN := hide hN
  clear hV hN e1 e2 q1 q2 l0 lq hv0 hv1
  go_upto_region 3 with fail
  go_cut [3] (fun s3 wx => s3 = str m2 ∧ w1.grownBy wx none)
  case first =>
    go_region_held3 (fun w' => w'.cell? ⟨bb, 0, none⟩ = some (.int .i64 s) ∧ w'.cell? ⟨bb, 1, none⟩ = some (.slice ak n ck))
      (first | go_keep | exact ⟨cell_of_grown c0 hg, cell_of_grown c1 hg⟩)
      (first | (go_at_call 73; refine (HV.out _ (by first | assumption | exact grown_drew (grown_refl _))).mono ?_; rintro e w' ⟨rfl, hg⟩) | (go_at_call 74; refine (HN.out _ (by first | assumption | exact grown_drew (grown_refl _))).mono ?_; rintro e w' ⟨rfl, hg⟩))
    all_goals
      go_wp2_with fail
      go_meet
      exact ⟨rfl, by first | assumption | exact grown_drew (by assumption)⟩
  case rest =>
  obtain ⟨rfl, g2⟩ := hcut
  have hS := hide (sumR m2 (by omega) wc)
  obtain ⟨m3, e3⟩ : ∃ m, m2 ++ sum4 m2 = m := ⟨_, rfl⟩
  have a3 := sadd' e3 (by simp [sum4]; omega)
  have E3 : Hid (digest n s q = m3) := by
    show digest n s q = m3
    rw [← e3, E.out]; rfl
  generalize sum4 m2 = v4 at a3 hS
  clear e3 a1 a2
  go_wp2_with fail
  refine hS.out.mono ?_
  rintro e w3 ⟨rfl, g3⟩
  go_wp2_with fail
  go_ret
  rw [E3.out]
  exact ⟨rfl, grown_trans g1 (grown_trans g2 g3)⟩

theorem writeDigR (s : Int) (hs0 : 0 < s) (hs8 : s ≤ 8) (n : Nat) (h8 : n ≤ 8) (q : Nat → Int) (hq : ∀ i, i < n → 0 ≤ q i ∧ q i ≤ 100) (vk vo : Value) (w : World) (hk : RowAt 3 1 vk (intRow (clk n q)) w) :
    Calls Tryz.prog 42 #[.agg #[.int .i64 s, vk, vo]] w fun e w' => e = .returned (str (digest n s q)) ∧ w.grownBy w' none := writeDigN s hs0 (by omega) n h8 q (fun i hi => by have := hq i hi; omega) vk vo w hk


/-- Operations in a list of the document's; each has a clock of its own. -/
def OpsRow (n : Nat) (v : Value) (l : List OpR) (w : World) : Prop :=
  ∃ rows, RowAt 88 8 v rows w ∧ rows.length = l.length ∧ ∀ (j : Nat) (x : OpR), l[j]? = some x → ∃ vk, rows[j]? = some (opCells x vk) ∧ RowAt 3 1 vk (intRow (clk n x.q)) w

theorem OpsRow.grown {n : Nat} {v : Value} {l : List OpR} {w w' : World} (h : OpsRow n v l w) (g : w.grownBy w' none) : OpsRow n v l w' := by
  obtain ⟨rows, h1, h2, h3⟩ := h
  exact ⟨rows, h1.grown g, h2, fun j x hj => by obtain ⟨vk, a, b⟩ := h3 j x hj; exact ⟨vk, a, b.grown g⟩⟩

theorem flat_take_op (n : Nat) (l : List OpR) (i : Nat) (x : OpR) (h : l[i]? = some x) : (l.take (i + 1)).flatMap (OpR.bytes n) = (l.take i).flatMap (OpR.bytes n) ++ x.bytes n := by
  rw [List.take_add_one, h, List.flatMap_append]; simp

theorem bytes_lenN {n : Nat} (h8 : n ≤ 8) {x : OpR} (hx : OpNn x) : (x.bytes n).length ≤ 150 := by
  obtain ⟨b0, b1, b2, b3, b4, b5, b6, b7⟩ := hx
  have h1 := vbs_len x.nums (fun y hy => by
    unfold OpR.nums at hy
    rcases List.mem_append.1 hy with hy | hy
    · simp only [List.mem_cons, List.not_mem_nil, or_false] at hy
      omega
    · split at hy
      · simp only [List.mem_cons, List.not_mem_nil, or_false] at hy; omega
      · cases hy)
  have h2 := vbs_len (clk n x.q) (fun y hy => by
    obtain ⟨i, hi, rfl⟩ := clk_mem hy
    have := b7 i (by omega)
    omega)
  rw [clk_len] at h2
  have h3 : x.nums.length ≤ 7 := by
    unfold OpR.nums
    split <;> simp
  unfold OpR.bytes
  rw [List.length_append]
  omega

theorem bytes_len {n : Nat} (h8 : n ≤ 8) {x : OpR} (hx : OpOk n x) : (x.bytes n).length ≤ 150 := bytes_lenN h8 (hx.nn h8)

theorem flat_lenN {n : Nat} (h8 : n ≤ 8) (l : List OpR) (h : ∀ x ∈ l, OpNn x) : (l.flatMap (OpR.bytes n)).length ≤ 150 * l.length := by
  induction l with
  | nil => simp
  | cons x l ih =>
    have h1 := bytes_lenN h8 (h x (by simp))
    have h2 := ih (fun y hy => h y (by simp [hy]))
    rw [List.flatMap_cons, List.length_append, List.length_cons]
    omega

theorem flat_len_op {n : Nat} (h8 : n ≤ 8) (l : List OpR) (h : ∀ x ∈ l, OpOk n x) : (l.flatMap (OpR.bytes n)).length ≤ 150 * l.length := flat_lenN h8 l (fun x hx => (h x hx).nn h8)

set_option maxRecDepth 100000 in
set_option maxHeartbeats 4000000 in
/-- A batch, as the document writes it. -/
theorem writeBatN (n : Nat) (h8 : n ≤ 8) (l : List OpR) (hl : l.length ≤ 200000) (hok : ∀ x ∈ l, OpNn x) (vk vo : Value) (w : World) (ho : OpsRow n vo l w) :
    Calls Tryz.prog 42 #[.agg #[.int .i64 0, vk, vo]] w fun e w' => e = .returned (str (batch n l)) ∧ w.grownBy w' none := by
  obtain ⟨rows, hR, hRl, hRx⟩ := ho
  obtain ⟨ao, co, rfl, -⟩ := hR.value
  rw [hRl] at hR ⊢
  go_enter Tryz.func42, Tryz.ntmps42
  go_upto_region 2 with fail
  have g1 : w.grownBy (w.alloc (.cells #[.int .i64 0, vk, .slice ao l.length co] 84)) none := grown_alloc (grown_refl _) _
  have k1 : (w.alloc (.cells #[.int .i64 0, vk, .slice ao l.length co] 84)).heap[w.heap.size]? = some (.cells #[.int .i64 0, vk, .slice ao l.length co] 84) := by rw [heap_alloc_at]; simp
  generalize (w.alloc (.cells #[.int .i64 0, vk, .slice ao l.length co] 84)) = w1 at g1 k1 ⊢
  generalize w.heap.size = bb at k1 ⊢
  have c0 : w1.cell? ⟨bb, 0, none⟩ = some (.int .i64 0) := cell_blk k1 0
  have c2 : w1.cell? ⟨bb, 2, none⟩ = some (.slice ao l.length co) := cell_blk k1 2
  have l0 := vb_len9 (l.length : Int) (by omega)
  obtain ⟨v0, hv0⟩ : ∃ m, vb (l.length : Int).toNat = m := ⟨_, rfl⟩
  obtain ⟨m1, e1⟩ : ∃ m, [66] ++ v0 = m := ⟨_, rfl⟩
  rw [hv0] at l0
  have q1 := len_of e1
  simp only [List.length_cons, List.length_nil] at q1
  have a1 := sadd' e1 (by simp; omega)
  have E1 : Hid (m1 = 66 :: vb l.length) := by
    show m1 = 66 :: vb l.length
    rw [← e1, ← hv0, Int.toNat_natCast]; rfl
  have hV : Calls Tryz.prog 73 #[.int .i64 l.length] w1 fun e w' => e = .returned (str v0) ∧ w1.grownBy w' none := by
    refine (varintR l.length (by omega) (by omega) w1).mono ?_
    rintro e w' ⟨rfl, hg⟩
    exact ⟨by rw [hv0], hg⟩
  have HV := hide hV
  have L1 : m1.length ≤ 20 := by omega
  clear hV hv0 e1 q1 l0
  go_wp2_with fail
  refine HV.out.mono ?_
  rintro e w2 ⟨rfl, g2⟩
  go_wp2_with fail
  clear a1 HV
  have hcell : ∀ W, w2.grownBy W none → W.cell? ⟨bb, 2, none⟩ = some (.slice ao l.length co) := fun W hW => cell_of_grown c2 (grown_trans g2 hW)
  have HC := hide hcell
  clear hcell
  go_loopg [3, 4] l.length (fun gk s3 s4 wr => ∃ (i : Nat) (m : List UInt8), s4 = .int .i64 i ∧ i ≤ l.length ∧ gk = l.length - i ∧ s3 = str m ∧ Hid (m = m1 ++ (l.take i).flatMap (OpR.bytes n)) ∧ w2.grownBy wr none)
  case atStart => exact ⟨0, m1, rfl, by omega, rfl, rfl, hide (by simp), grown_refl _⟩
  case round =>
    obtain ⟨i, m, rfl, hil, hgk, rfl, hm, hG⟩ := hrel
    have d2 := HC.out _ hG
    have hml := flat_lenN h8 (l.take i) (fun x hx => hok x (List.mem_of_mem_take hx))
    have htl : (l.take i).length ≤ 200000 := by simp; omega
    have hml2 : m.length ≤ 40000000 := by rw [hm.out, List.length_append]; omega
    by_cases hlt : i < l.length
    · have hli : (i : Int) < (l.length : Int) := by omega
      obtain ⟨x, hx⟩ : ∃ x, l[i]? = some x := ⟨l[i], by simp [hlt]⟩
      have hxo := hok x (List.mem_of_getElem? hx)
      obtain ⟨vx, hrow, hclk⟩ := hRx i x hx
      obtain ⟨gr, cr, cur, hvr, -, hbr, hcr⟩ := (hR.grown (grown_trans g1 (grown_trans g2 hG))).cell hrow
      rw [hRl] at hvr
      cases hvr
      have r0 : wr.cell? ⟨gr, i * 8, none⟩ = some (.int .i64 x.o) := (cell_blk hbr _).trans (hcr 0 _ rfl)
      have r1 : wr.cell? ⟨gr, i * 8 + 1, none⟩ = some (.int .i64 x.num) := (cell_blk hbr _).trans (hcr 1 _ rfl)
      have r2 : wr.cell? ⟨gr, i * 8 + 2, none⟩ = some (.int .i64 x.c) := (cell_blk hbr _).trans (hcr 2 _ rfl)
      have r3 : wr.cell? ⟨gr, i * 8 + 3, none⟩ = some (.int .i64 x.kind) := (cell_blk hbr _).trans (hcr 3 _ rfl)
      have r4 : wr.cell? ⟨gr, i * 8 + 4, none⟩ = some (.int .i64 x.tc) := (cell_blk hbr _).trans (hcr 4 _ rfl)
      have r5 : wr.cell? ⟨gr, i * 8 + 5, none⟩ = some (.int .i64 x.tk) := (cell_blk hbr _).trans (hcr 5 _ rfl)
      have r6 : wr.cell? ⟨gr, i * 8 + 6, none⟩ = some (.int .i64 x.r) := (cell_blk hbr _).trans (hcr 6 _ rfl)
      have r7 : wr.cell? ⟨gr, i * 8 + 7, none⟩ = some vx := (cell_blk hbr _).trans (hcr 7 _ rfl)
      have HW := hide (writeOpN x n h8 hxo vx wr (hclk.grown (grown_trans g1 (grown_trans g2 hG))))
      obtain ⟨y, hy⟩ : ∃ y, x.bytes n = y := ⟨_, rfl⟩
      obtain ⟨m', em⟩ : ∃ k, m ++ y = k := ⟨_, rfl⟩
      have hbl := bytes_lenN h8 hxo
      rw [hy] at HW hbl
      have a2 := sadd' em (by omega)
      have EM : Hid (m' = m1 ++ (l.take (i + 1)).flatMap (OpR.bytes n)) := by
        show m' = m1 ++ (l.take (i + 1)).flatMap (OpR.bytes n)
        rw [flat_take_op n l i x hx, ← em, hm.out, hy, List.append_assoc]
      clear hy em hbl hrow hcr hml htl hml2 hclk
      go_wp2_with fail
      refine HW.out.mono ?_
      rintro e w3 ⟨rfl, g3⟩
      go_wp2_with fail
      go_roundg (l.length - (i + 1))
      case measure => omega
      case rel => exact ⟨i + 1, m', by go_num, by omega, rfl, rfl, EM, grown_trans hG g3⟩
    · obtain rfl : i = l.length := by omega
      rw [List.take_length] at hm
      have hS := hide (sumR m (by omega) wr)
      obtain ⟨m3, e3⟩ : ∃ k, m ++ sum4 m = k := ⟨_, rfl⟩
      have a3 := sadd' e3 (by simp [sum4]; omega)
      have E3 : Hid (batch n l = m3) := by
        show batch n l = m3
        have e4 : 66 :: (vb l.length ++ l.flatMap (OpR.bytes n)) = m := by rw [hm.out, E1.out]; rfl
        unfold batch
        rw [e4, ← e3]; rfl
      generalize sum4 m = v4 at a3 hS
      clear e3
      go_wp2_with fail
      refine hS.out.mono ?_
      rintro e w3 ⟨rfl, g3⟩
      go_wp2_with fail
      go_ret
      rw [E3.out]
      exact ⟨rfl, grown_trans g1 (grown_trans g2 (grown_trans hG g3))⟩

theorem writeBatR (n : Nat) (h8 : n ≤ 8) (l : List OpR) (hl : l.length ≤ 1000) (hok : ∀ x ∈ l, OpOk n x) (vk vo : Value) (w : World) (ho : OpsRow n vo l w) :
    Calls Tryz.prog 42 #[.agg #[.int .i64 0, vk, vo]] w fun e w' => e = .returned (str (batch n l)) ∧ w.grownBy w' none := writeBatN n h8 l (by omega) (fun x hx => (hok x hx).nn h8) vk vo w ho

end Go.Proofs.YtachmkhbbbmioaaGreat

namespace Go.Proofs.YtachmkhbbbmioaaGreat
open Go.RowKit Go.Shelf

theorem infoStr : (Tryz.prog.info? 9).map (fun i => (i.zero, i.size, i.bytes)) = some (some (.string ⟨#[]⟩), 1, 16) := by kernel_rfl

def strRow (l : List (List UInt8)) : List (List Value) := l.map fun b => [str b]
theorem strRow_len (l : List (List UInt8)) : (strRow l).length = l.length := by simp [strRow]
theorem strRow_append (a b : List (List UInt8)) : strRow (a ++ b) = strRow a ++ strRow b := by simp [strRow]
theorem strRow_one (l : List (List UInt8)) : ∀ y ∈ strRow l, y.length = 1 := by
  intro y hy
  obtain ⟨x, -, rfl⟩ := List.mem_map.1 hy
  rfl
theorem strRow_cell (l : List (List UInt8)) : ∀ y ∈ strRow l, ∀ c ∈ y, c.oneCell' = true := by
  intro y hy c hc
  obtain ⟨x, -, rfl⟩ := List.mem_map.1 hy
  simp only [List.mem_cons, List.not_mem_nil, or_false] at hc
  rw [hc]; rfl

/-- The program's operations in a list. -/
def opRow (l : List OpR) : List (List Value) := l.map fun x => x.arr.toList
theorem opRow_len (l : List OpR) : (opRow l).length = l.length := by simp [opRow]
theorem opRow_one (l : List OpR) : ∀ y ∈ opRow l, y.length = 15 := by
  intro y hy
  obtain ⟨x, -, rfl⟩ := List.mem_map.1 hy
  rfl
theorem opRow_cell (l : List OpR) : ∀ y ∈ opRow l, ∀ c ∈ y, c.oneCell' = true := by
  intro y hy c hc
  obtain ⟨x, -, rfl⟩ := List.mem_map.1 hy
  simp only [OpR.arr, opArr, List.mem_cons, List.not_mem_nil, or_false] at hc
  rcases hc with rfl | rfl | rfl | rfl | rfl | rfl | rfl | rfl | rfl | rfl | rfl | rfl | rfl | rfl | rfl <;> rfl

theorem packs_cons (n : Nat) (some : List OpR) (x : OpR) (l : List OpR) : packs n some (x :: l) = if 114 < (some.flatMap (OpR.bytes n)).length + (x.bytes n).length then some :: packs n [x] l else packs n (some ++ [x]) l := rfl
theorem drop_at {l : List OpR} {i : Nat} {x : OpR} (h : l[i]? = some x) : l.drop i = x :: l.drop (i + 1) := by
  obtain ⟨hlt, hx⟩ := List.getElem?_eq_some_iff.1 h
  rw [List.drop_eq_getElem_cons hlt, hx]

theorem bytes_pos (n : Nat) (x : OpR) : 0 < (x.bytes n).length := by
  have := vb_pos x.o.toNat
  unfold OpR.bytes OpR.nums
  simp only [List.cons_append, List.length_append, vbs]
  omega

set_option maxRecDepth 100000 in
set_option maxHeartbeats 4000000 in
theorem writeBsP (n : Nat) (h8 : n ≤ 8) (l : List OpR) (hl : l.length ≤ 1000) (hok : ∀ x ∈ l, OpOk n x) (v : Value) (w : World) (hv : RowAt 154 15 v (opRow l) w) :
    Calls Tryz.prog 88 #[.int .i64 n, v] w fun e w' => ∃ v', e = .returned v' ∧ RowAt 9 1 v' (strRow (answers n l)) w' ∧ w.grownBy w' none ∧ (∀ g, v'.ownBlock = some g → w.heap.size ≤ g) := by
  obtain ⟨av, cv, rfl, -⟩ := hv.value
  rw [opRow_len] at hv ⊢
  go_enter Tryz.func88, Tryz.ntmps88
  go_wp2_with fail
  go_loopg [5, 6, 7, 13] l.length (fun gk s5 s6 s7 s13 wr => ∃ (i : Nat) (out : List (List UInt8)) (some : List OpR), s13 = .int .i64 i ∧ i ≤ l.length ∧ gk = l.length - i ∧ s7 = .int .i64 some.length ∧ some.length ≤ i ∧ (∀ x ∈ some, OpOk n x) ∧ out.length ≤ i ∧
    Hid (out ++ (packs n some (l.drop i)).map (batch n) = answers n l) ∧ RowAt 9 1 s5 (strRow out) wr ∧ RowAt 5 1 s6 (byRow (some.flatMap (OpR.bytes n))) wr ∧ w.grownBy wr none ∧ (∀ g, s5.ownBlock = .some g → w.heap.size ≤ g) ∧ (∀ g, s6.ownBlock = .some g → w.heap.size ≤ g))
  case atStart => exact ⟨0, [], [], rfl, by omega, rfl, rfl, by simp, by simp, by simp, hide (by simp [answers]), row_nil _ _ _, row_nil _ _ _, grown_refl _, by simp [Value.ownBlock], by simp [Value.ownBlock]⟩
  case round =>
    obtain ⟨i, out, some, rfl, hil, hgk, rfl, hsl, hso, hol, hP, hR5, hR6, hG, hO5, hO6⟩ := hrel
    by_cases hlt : i < l.length
    · have hli : (i : Int) < (l.length : Int) := by omega
      obtain ⟨x, hx⟩ : ∃ x, l[i]? = .some x := ⟨l[i], by simp [hlt]⟩
      have hxo := hok x (List.mem_of_getElem? hx)
      obtain ⟨gv, cv', cur, hv', -, hb, hc⟩ := (hv.grown hG).cell (i := i) (x := x.arr.toList) (by simp [opRow, hx])
      rw [opRow_len] at hv'
      cases hv'
      have r0 : wr.cell? ⟨gv, i * 15, none⟩ = .some (.int .i64 x.o) := (cell_blk hb _).trans (hc 0 _ rfl)
      have r1 : wr.cell? ⟨gv, i * 15 + 1, none⟩ = .some (.int .i64 x.num) := (cell_blk hb _).trans (hc 1 _ rfl)
      have r2 : wr.cell? ⟨gv, i * 15 + 2, none⟩ = .some (.int .i64 x.c) := (cell_blk hb _).trans (hc 2 _ rfl)
      have r3 : wr.cell? ⟨gv, i * 15 + 3, none⟩ = .some (.int .i64 x.kind) := (cell_blk hb _).trans (hc 3 _ rfl)
      have r4 : wr.cell? ⟨gv, i * 15 + 4, none⟩ = .some (.int .i64 x.tc) := (cell_blk hb _).trans (hc 4 _ rfl)
      have r5 : wr.cell? ⟨gv, i * 15 + 5, none⟩ = .some (.int .i64 x.tk) := (cell_blk hb _).trans (hc 5 _ rfl)
      have r6 : wr.cell? ⟨gv, i * 15 + 6, none⟩ = .some (.int .i32 x.r) := (cell_blk hb _).trans (hc 6 _ rfl)
      have r7 : wr.cell? ⟨gv, i * 15 + 7, none⟩ = .some (.int .i64 (x.q 0)) := (cell_blk hb _).trans (hc 7 _ rfl)
      have r8 : wr.cell? ⟨gv, i * 15 + 8, none⟩ = .some (.int .i64 (x.q 1)) := (cell_blk hb _).trans (hc 8 _ rfl)
      have r9 : wr.cell? ⟨gv, i * 15 + 9, none⟩ = .some (.int .i64 (x.q 2)) := (cell_blk hb _).trans (hc 9 _ rfl)
      have r10 : wr.cell? ⟨gv, i * 15 + 10, none⟩ = .some (.int .i64 (x.q 3)) := (cell_blk hb _).trans (hc 10 _ rfl)
      have r11 : wr.cell? ⟨gv, i * 15 + 11, none⟩ = .some (.int .i64 (x.q 4)) := (cell_blk hb _).trans (hc 11 _ rfl)
      have r12 : wr.cell? ⟨gv, i * 15 + 12, none⟩ = .some (.int .i64 (x.q 5)) := (cell_blk hb _).trans (hc 12 _ rfl)
      have r13 : wr.cell? ⟨gv, i * 15 + 13, none⟩ = .some (.int .i64 (x.q 6)) := (cell_blk hb _).trans (hc 13 _ rfl)
      have r14 : wr.cell? ⟨gv, i * 15 + 14, none⟩ = .some (.int .i64 (x.q 7)) := (cell_blk hb _).trans (hc 14 _ rfl)
      go_upto_region 7 with fail
      have g1 : wr.grownBy (wr.alloc (.cells #[.int .i64 x.o, .int .i64 x.num, .int .i64 x.c, .int .i64 x.kind, .int .i64 x.tc, .int .i64 x.tk, .int .i32 x.r, .int .i64 (x.q 0), .int .i64 (x.q 1), .int .i64 (x.q 2), .int .i64 (x.q 3), .int .i64 (x.q 4), .int .i64 (x.q 5), .int .i64 (x.q 6), .int .i64 (x.q 7)] 154)) none := grown_alloc (grown_refl _) _
      have k1 : (wr.alloc (.cells #[.int .i64 x.o, .int .i64 x.num, .int .i64 x.c, .int .i64 x.kind, .int .i64 x.tc, .int .i64 x.tk, .int .i32 x.r, .int .i64 (x.q 0), .int .i64 (x.q 1), .int .i64 (x.q 2), .int .i64 (x.q 3), .int .i64 (x.q 4), .int .i64 (x.q 5), .int .i64 (x.q 6), .int .i64 (x.q 7)] 154)).heap[wr.heap.size]? = .some (.cells #[.int .i64 x.o, .int .i64 x.num, .int .i64 x.c, .int .i64 x.kind, .int .i64 x.tc, .int .i64 x.tk, .int .i32 x.r, .int .i64 (x.q 0), .int .i64 (x.q 1), .int .i64 (x.q 2), .int .i64 (x.q 3), .int .i64 (x.q 4), .int .i64 (x.q 5), .int .i64 (x.q 6), .int .i64 (x.q 7)] 154) := by rw [heap_alloc_at]; simp
      generalize (wr.alloc (.cells #[.int .i64 x.o, .int .i64 x.num, .int .i64 x.c, .int .i64 x.kind, .int .i64 x.tc, .int .i64 x.tk, .int .i32 x.r, .int .i64 (x.q 0), .int .i64 (x.q 1), .int .i64 (x.q 2), .int .i64 (x.q 3), .int .i64 (x.q 4), .int .i64 (x.q 5), .int .i64 (x.q 6), .int .i64 (x.q 7)] 154)) = w1 at g1 k1 ⊢
      generalize wr.heap.size = bx at k1 ⊢
      have f0 : w1.cell? ⟨bx, 0, none⟩ = .some (.int .i64 x.o) := cell_blk k1 0
      have f1 : w1.cell? ⟨bx, 1, none⟩ = .some (.int .i64 x.num) := cell_blk k1 1
      have f2 : w1.cell? ⟨bx, 2, none⟩ = .some (.int .i64 x.c) := cell_blk k1 2
      have f3 : w1.cell? ⟨bx, 3, none⟩ = .some (.int .i64 x.kind) := cell_blk k1 3
      have f4 : w1.cell? ⟨bx, 4, none⟩ = .some (.int .i64 x.tc) := cell_blk k1 4
      have f5 : w1.cell? ⟨bx, 5, none⟩ = .some (.int .i64 x.tk) := cell_blk k1 5
      have f6 : w1.cell? ⟨bx, 6, none⟩ = .some (.int .i32 x.r) := cell_blk k1 6
      have f7 : w1.cell? ⟨bx, 7, none⟩ = .some (.int .i64 (x.q 0)) := cell_blk k1 7
      have f8 : w1.cell? ⟨bx, 8, none⟩ = .some (.int .i64 (x.q 1)) := cell_blk k1 8
      have f9 : w1.cell? ⟨bx, 9, none⟩ = .some (.int .i64 (x.q 2)) := cell_blk k1 9
      have f10 : w1.cell? ⟨bx, 10, none⟩ = .some (.int .i64 (x.q 3)) := cell_blk k1 10
      have f11 : w1.cell? ⟨bx, 11, none⟩ = .some (.int .i64 (x.q 4)) := cell_blk k1 11
      have f12 : w1.cell? ⟨bx, 12, none⟩ = .some (.int .i64 (x.q 5)) := cell_blk k1 12
      have f13 : w1.cell? ⟨bx, 13, none⟩ = .some (.int .i64 (x.q 6)) := cell_blk k1 13
      have f14 : w1.cell? ⟨bx, 14, none⟩ = .some (.int .i64 (x.q 7)) := cell_blk k1 14
      have HA := hide (appOp n h8 x hxo w1)
      unfold opArr at HA
      have hR5 := hR5.grown g1
      have hR6 := hR6.grown g1
      have hG := grown_trans hG g1
      have hfl := flat_len_op h8 some hso
      have hpl := bytes_len h8 hxo
      clear r0 r1 r2 r3 r4 r5 r6 r7 r8 r9 r10 r11 r12 r13 r14 hb hc k1 g1
      obtain ⟨a6, c6, rfl, -⟩ := hR6.value
      rw [byRow_len] at hR6 hO6 ⊢
      have HP := hP
      have HP6 := hide hR6
      have hdr := drop_at hx
      have HPK : Hid (out ++ (packs n some (x :: l.drop (i + 1))).map (batch n) = answers n l) := by rw [← hdr]; exact HP
      clear hdr HP hP hR6
      obtain ⟨fl, hfl0⟩ : ∃ fl, (some.flatMap (OpR.bytes n)).length = fl := ⟨_, rfl⟩
      obtain ⟨pl, hpl0⟩ : ∃ pl, (x.bytes n).length = pl := ⟨_, rfl⟩
      have HFL := hide hfl0
      have HPL := hide hpl0
      rw [hfl0] at hfl HP6 hO6 ⊢
      rw [hpl0] at hpl
      clear hfl0 hpl0
      go_wp2_with fail
      refine HA.out.mono ?_
      rintro e w3 ⟨v3, rfl, hR3, g3, hO3⟩
      obtain ⟨a3, c3, rfl, -⟩ := hR3.value
      rw [byRow_len, HPL.out] at hR3 hO3 ⊢
      have hR5 := hR5.grown g3
      have hR6 := HP6.out.grown g3
      have hG := grown_trans hG g3
      have hs3 := hR3.src
      have hR3b := hR3
      clear HP6 HA g3 f0 f1 f2 f3 f4 f5 f6 f7 f8 f9 f10 f11 f12 f13 f14
      have hsz : w.heap.size ≤ w3.heap.size := hG.size
      by_cases h114 : 114 < fl + pl
      · have h114i : (114 : Int) < (fl : Int) + (pl : Int) := by omega
        have HW := hide (writeBatP some.length (by omega) (some.flatMap (OpR.bytes n)) (by rw [HFL.out]; omega) (.slice a6 fl c6) w3 hR6)
        have HPK2 : Hid ((out ++ [batch n some]) ++ (packs n [x] (l.drop (i + 1))).map (batch n) = answers n l) := by
          have := HPK.out
          rw [packs_cons, if_pos (by rw [HFL.out, HPL.out]; exact h114)] at this
          refine hide ?_
          rw [← this]; simp
        have HBT : Hid (sealB (66 :: (vb some.length ++ some.flatMap (OpR.bytes n))) = batch n some) := rfl
        rw [HBT.out] at HW
        clear HBT HPK
        generalize hbt : batch n some = bt at HW HPK2
        clear hbt
        have hR6' := hR6
        clear hR6
        go_wp2_with fail
        refine HW.out.mono ?_
        rintro e w4 ⟨rfl, g4⟩
        have g5 : w4.grownBy (w4.alloc (.cells #[str bt] 9)) none := grown_alloc (grown_refl _) _
        have hS5 : SrcAt (w4.alloc (.cells #[str bt] 9)) (.slice (.some ⟨w4.heap.size, 0, none⟩) 1 1) (strRow [bt]) := src_new w4 [str bt] _
        have hR5a := hR5.grown (grown_trans g4 g5)
        have hG5 := grown_trans hG (grown_trans g4 g5)
        have hR3a := hR3b.grown (grown_trans g4 g5)
        have lo : (strRow out).length ≤ 1000 := by rw [strRow_len]; omega
        have l1 : (strRow [bt]).length = 1 := rfl
        clear hR5 hs3 hR3 hR3b
        go_upto_region 11 with (at_builtin; refine wpList_row Tryz.underlying26 infoStr rfl (by decide) rfl _ _ rfl u5 _ rfl hR5a _ _ rfl hS5 (strRow_one _) (strRow_cell _) (by unfold maxLen; omega) (by omega) ?_; intro v5 w5 hR5' hg5 hat5)
        rw [← strRow_append] at hR5'
        have hG6 : w.grownBy w5 none := ((Fr.ofGrown hG5).grown hg5 (fun k hk => .inr (hO5 k hk)) : Fr [] w w5).toGrown
        have hO5' : ∀ g, v5.ownBlock = .some g → w.heap.size ≤ g := fun g hg => by
          rcases hat5 with hat | hat
          · exact hO5 g (hat ▸ hg)
          · rw [hat] at hg; cases hg; exact hG5.size
        have hR3' : RowAt 5 1 (.slice a3 pl c3) (byRow (x.bytes n)) w5 := hR3a.kept (fun g hg => hg5.block g (hR3a.lt hg) (fun q => hR5a.ne hR3a (by decide) q.symm hg))
        have hs3 := hR3'.src
        have l3 : (byRow (x.bytes n)).length = pl := by rw [byRow_len, HPL.out]
        have hnil := row_nil 5 1 w5
        clear hR5a hS5 hR3a g4 g5
        go_wp2_with (at_builtin; refine wpList_row Tryz.underlying69 infoU8 rfl (by decide) rfl _ _ rfl _ _ rfl hnil _ _ rfl hs3 (byRow_one _) (byRow_cell _) (by unfold maxLen; simp only [List.length_nil]; omega) (by simp only [List.length_nil]; omega) ?_; intro v6 w6 hR6' hg6 hat6)
        rw [List.nil_append] at hR6'
        have hR5'' := hR5'.grown hg6
        go_roundg (l.length - (i + 1))
        case measure => omega
        case rel =>
          refine ⟨i + 1, out ++ [bt], [x], by go_num, by omega, rfl, rfl, by simp, by simpa using hxo, by simp; omega, HPK2, hR5'', by simpa using hR6', grown_trans hG6 hg6, hO5', fun g hg => ?_⟩
          rcases hat6 with hat | hat
          · rw [hat] at hg; cases hg
          · rw [hat] at hg; cases hg; exact hG6.size
      · have h114i : ¬ (114 : Int) < (fl : Int) + (pl : Int) := by omega
        have HPK2 : Hid (out ++ (packs n (some ++ [x]) (l.drop (i + 1))).map (batch n) = answers n l) := by
          have := HPK.out
          rw [packs_cons, if_neg (by rw [HFL.out, HPL.out]; exact h114)] at this
          exact this
        have l6 : (byRow (some.flatMap (OpR.bytes n))).length = fl := by rw [byRow_len, HFL.out]
        have l3 : (byRow (x.bytes n)).length = pl := by rw [byRow_len, HPL.out]
        have hR6a := hR6
        clear HPK hR3 hR3b hR6
        go_wp2_with (at_builtin; refine wpList_row Tryz.underlying69 infoU8 rfl (by decide) rfl _ _ rfl _ _ rfl hR6a _ _ rfl hs3 (byRow_one _) (byRow_cell _) (by unfold maxLen; omega) (by omega) ?_; intro v6 w6 hR6' hg6 hat6)
        rw [← byRow_append] at hR6'
        go_roundg (l.length - (i + 1))
        case measure => omega
        case rel =>
          have hR5'' : RowAt 9 1 u5 (strRow out) w6 := hR5.kept (fun g hg => hg6.block g (hR5.lt hg) (fun q => hR6a.ne hR5 (by decide) q.symm hg))
          refine ⟨i + 1, out, some ++ [x], by go_num, by omega, rfl, by simp, by simp; omega, ?_, by omega, HPK2, hR5'', by simpa using hR6', ((Fr.ofGrown hG).grown hg6 (fun k hk => .inr (hO6 k hk)) : Fr [] w w6).toGrown, hO5, fun g hg => ?_⟩
          · intro y hy
            rcases List.mem_append.1 hy with hy | hy
            · exact hso y hy
            · simp at hy; subst hy; exact hxo
          · rcases hat6 with hat | hat
            · exact hO6 g (hat ▸ hg)
            · rw [hat] at hg; cases hg; exact hsz
    · obtain rfl : i = l.length := by omega
      have hfin := hP.out
      rw [List.drop_length] at hfin
      have HFN := hide hfin
      clear hfin hP
      have hfl := flat_len_op h8 some hso
      by_cases hz : some.length = 0
      · have hzi : ¬ (0 : Int) < (some.length : Int) := by omega
        have he : out = answers n l := by
          have := HFN.out
          simpa [packs, hz] using this
        have HE := hide he
        clear he
        go_wp2_with fail
        go_ret
        exact ⟨_, rfl, by rw [← HE.out]; exact hR5, hG, hO5⟩
      · have hzi : (0 : Int) < (some.length : Int) := by omega
        have he : out ++ [batch n some] = answers n l := by
          have := HFN.out
          simpa [packs, hz] using this
        have HE := hide he
        clear he HFN
        obtain ⟨a6, c6, rfl, -⟩ := hR6.value
        rw [byRow_len] at hR6 ⊢
        have HW := hide (writeBatP some.length (by omega) (some.flatMap (OpR.bytes n)) (by omega) _ wr hR6)
        have HBT : Hid (sealB (66 :: (vb some.length ++ some.flatMap (OpR.bytes n))) = batch n some) := rfl
        rw [HBT.out] at HW
        clear HBT
        generalize hbt : batch n some = bt at HW HE
        clear hbt hR6 hO6
        generalize (some.flatMap (OpR.bytes n)).length = fl at HW ⊢
        go_wp2_with fail
        refine HW.out.mono ?_
        rintro e w4 ⟨rfl, g4⟩
        have g5 : w4.grownBy (w4.alloc (.cells #[str bt] 9)) none := grown_alloc (grown_refl _) _
        have hS5 : SrcAt (w4.alloc (.cells #[str bt] 9)) (.slice (.some ⟨w4.heap.size, 0, none⟩) 1 1) (strRow [bt]) := src_new w4 [str bt] _
        have hR5a := hR5.grown (grown_trans g4 g5)
        have hG5 := grown_trans hG (grown_trans g4 g5)
        have lo : (strRow out).length ≤ 1000 := by rw [strRow_len]; omega
        have l1 : (strRow [bt]).length = 1 := rfl
        go_wp2_with (at_builtin; refine wpList_row Tryz.underlying26 infoStr rfl (by decide) rfl _ _ rfl u5 _ rfl hR5a _ _ rfl hS5 (strRow_one _) (strRow_cell _) (by unfold maxLen; omega) (by omega) ?_; intro v5 w5 hR5' hg5 hat5)
        rw [← strRow_append] at hR5'
        go_ret
        refine ⟨v5, rfl, by rw [← HE.out]; exact hR5', ((Fr.ofGrown hG5).grown hg5 (fun k hk => .inr (hO5 k hk)) : Fr [] w w5).toGrown, fun g hg => ?_⟩
        rcases hat5 with hat | hat
        · exact hO5 g (hat ▸ hg)
        · rw [hat] at hg; cases hg; exact hG5.size

end Go.Proofs.YtachmkhbbbmioaaGreat

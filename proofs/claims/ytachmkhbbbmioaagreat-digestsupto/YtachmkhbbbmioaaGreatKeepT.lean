import Derived.Test.YtachmkhbbbmioaaGreatRefMX
import Derived.Test.YtachmkhbbbmioaaGreatKeepX
namespace Go.Proofs.YtachmkhbbbmioaaGreat
open Go.RowKit Go.Shelf

/-- A list that is full of one text. -/
def fullT (n : Nat) (M : List UInt8) : List (List Value) := List.replicate n [str M]
theorem fullT_len (n : Nat) (M : List UInt8) : (fullT n M).length = n := by simp [fullT]
theorem fullT_at {n i : Nat} {M : List UInt8} (h : i < n) : (fullT n M)[i]? = some [str M] := by simp [fullT, h]
theorem fullT_one (n : Nat) (M : List UInt8) : ∀ y ∈ fullT n M, y.length = 1 := by
  intro y hy
  rw [List.eq_of_mem_replicate hy]; rfl
theorem fullT_cell (n : Nat) (M : List UInt8) : ∀ y ∈ fullT n M, ∀ c ∈ y, c.oneCell' = true := by
  intro y hy c hc
  rw [List.eq_of_mem_replicate hy] at hc
  simp only [List.mem_cons, List.not_mem_nil, or_false] at hc
  rw [hc]; rfl
theorem fullT_flat (n : Nat) (M : List UInt8) : (fullT n M).flatten = List.replicate n (str M) := flat_rep n (str M)
theorem fullT_add (n k : Nat) (M : List UInt8) : fullT n M ++ fullT k M = fullT (n + k) M := by
  unfold fullT; rw [List.replicate_append_replicate]

/-- A full list stays so when the same text is written somewhere. -/
theorem full_set {u : Value} {p : Nat} {M : List UInt8} {w : World} (h : RowAt 9 1 u (fullT p M) w) (g idx : Nat) : RowAt 9 1 u (fullT p M) (w.setCell ⟨g, idx, none⟩ (str M)) := by
  refine ⟨⟨h.1.1, ?_⟩, h.2⟩
  rcases h.1.2 with h1 | ⟨b, cap, cur, h1, h2, hb, hle, hmx, hsz, htk⟩
  · exact .inl h1
  · by_cases q : b = g
    · subst q
      refine .inr ⟨b, cap, cur.setIfInBounds idx (str M), h1, h2, set_blk hb, hle, hmx, by simpa using hsz, ?_⟩
      rw [Array.toList_setIfInBounds, List.take_set, htk, fullT_flat, List.set_replicate_self]
    · exact .inr ⟨b, cap, cur, h1, h2, by rw [Below.heap_setCell _ _ _ _ q]; exact hb, hle, hmx, hsz, htk⟩

theorem full_sets {u : Value} {p : Nat} {M : List UInt8} (g : Nat) : ∀ (m o : Nat) {w : World}, RowAt 9 1 u (fullT p M) w → RowAt 9 1 u (fullT p M) (w.setCells g o (List.replicate m (str M)))
  | 0, _, _, h => h
  | m + 1, o, _, h => by
    rw [List.replicate_succ]
    exact full_sets g m (o + 1) (full_set h g o)

theorem setCells_size (g : Nat) : ∀ (vs : List Value) (o : Nat) (w : World), (w.setCells g o vs).heap.size = w.heap.size
  | [], _, _ => rfl
  | v :: vs, o, w => by simp only [World.setCells]; rw [setCells_size g vs]; simp [World.setCell]
theorem setCells_tape (g : Nat) : ∀ (vs : List Value) (o : Nat) (w : World), (w.setCells g o vs).tape = w.tape
  | [], _, _ => rfl
  | v :: vs, o, w => by simp only [World.setCells]; rw [setCells_tape g vs]; rfl
theorem setCells_blk (g : Nat) : ∀ (vs : List Value) (o : Nat) (w : World) {cur : Array Value} {e : TypeId}, w.heap[g]? = some (.cells cur e) → ∃ cur', (w.setCells g o vs).heap[g]? = some (.cells cur' e) ∧ cur'.size = cur.size
  | [], _, _, cur, _, h => ⟨cur, h, rfl⟩
  | v :: vs, o, w, cur, e, h => by
    obtain ⟨cur', h1, h2⟩ := setCells_blk g vs (o + 1) (w.setCell ⟨g, o, none⟩ v) (set_blk h)
    exact ⟨cur', h1, by rw [h2]; simp⟩

/-- APPEND of a text to a list that is full of it. -/
theorem wpList_fill {w : World} {ops : Array Oper} {rest : List Oper} {o : Oper} {a : Act} {Q : Exit → Act → World → Prop} (hgd : o.guard = none) (s x : Operand)
    (ho : o.op = .call { callee := .builtin .append, args := #[s, x], argTypes := #[26, 26] }) (v : Value) (n : Nat) (M : List UInt8) (hs : a.eval s = v) (hR : RowAt 9 1 v (fullT n M) w)
    (gx m : Nat) (hm : 0 < m) (hx : a.eval x = .slice (some ⟨gx, 0, none⟩) m m) (hcx : ∀ j, j < m → w.cell? ⟨gx, j, none⟩ = some (str M)) (hn : n + m ≤ 1000000)
    (h : ∀ v' w', RowAt 9 1 v' (fullT (n + m) M) w' → (∀ u p, RowAt 9 1 u (fullT p M) w → RowAt 9 1 u (fullT p M) w') → Fr v.ownBlock.toList w w' → (∀ g, v'.ownBlock = some g → v.ownBlock = some g ∨ g = w.heap.size) → wpList Tryz.prog ops Q rest (a.put o.dst v') w') : wpList Tryz.prog ops Q (o :: rest) a w := by
  have hsrc : SrcAt w (.slice (some ⟨gx, 0, none⟩) m m) (fullT m M) := by
    refine .inr ⟨⟨gx, 0, none⟩, m, by rw [fullT_len], fun j y hj => ?_⟩
    rw [fullT_flat] at hj
    have hjm : j < m := by have := (List.getElem?_eq_some_iff.1 hj).1; simpa using this
    rw [Addr.add_lit, Nat.zero_add, hcx j hjm]
    simpa [hjm] using hj
  have hlen : (fullT n M).length = n := fullT_len n M
  have hlm : (fullT m M).length = m := fullT_len m M
  rcases hR.1.2 with ⟨rfl, h0⟩ | ⟨g, cap, cur, hv, -, hb, hle, hmx, hsz, htk⟩
  · refine wpList_row Tryz.underlying26 infoStr rfl (by decide) hgd s x ho (.slice none 0 0) _ hs hR _ _ hx hsrc (fullT_one _ _) (fullT_cell _ _) (by unfold maxLen; omega) (by omega) ?_
    intro v' w' hR' hg hat
    rw [fullT_add] at hR'
    have hg' : w.grownBy w' none := hg
    refine h v' w' hR' (fun u p hu => hu.grown hg') (Fr.ofGrown hg') (fun k hk => ?_)
    rcases hat with hat | hat
    · exact .inl (hat ▸ hk)
    · rw [hat] at hk; cases hk; exact .inr rfl
  · rw [hlen] at hv hle
    subst hv
    by_cases hroom : n + m ≤ cap
    · obtain ⟨i, hi, hz0, hz1, hz2⟩ := info_parts infoStr
      have hnl : (List.replicate m (str M)).length = m * i.size := by rw [hz1]; simp
      have hnews : ∀ j u, (List.replicate m (str M))[j]? = some u → w.cell? ((⟨gx, 0, none⟩ : Addr).add j) = some u := fun j u hj => by
        have hjm : j < m := by have := (List.getElem?_eq_some_iff.1 hj).1; simpa using this
        rw [Addr.add_lit, Nat.zero_add, hcx j hjm]
        simpa [hjm] using hj
      have hthere : ∀ j, j < m → (w.cell? ⟨g, n + j, none⟩).isSome = true := fun j hj => by rw [cell_blk hb, Array.getElem?_eq_getElem (by omega)]; rfl
      have hr := run_append_room_cells (P := Tryz.prog) w 26 o.type 9 i Tryz.underlying26 hi g 0 n cap ⟨gx, 0, none⟩ m m (List.replicate m (str M)) hnl hnews (by intro u hu; rw [List.eq_of_mem_replicate hu]; rfl) hroom (fun j hj => by rw [hz1, Nat.mul_one, Nat.zero_add]; exact hthere j (by simpa using hj)) (fun j _ => frozen_blk hb _)
      rw [hz1, Nat.mul_one, Nat.zero_add] at hr
      refine wpList_plain hgd fun K hK => ?_
      unfold Oper.wp execOp
      simp only [ho, resolve, invoke, builtin, Sem.run_bind, Sem.run_pure, Result.andThen_ok, List.map_toArray, List.map_cons, List.map_nil, hs, hx, hr]
      obtain ⟨cur', hb', hsz'⟩ := setCells_blk g (List.replicate m (str M)) n w hb
      refine hK _ _ (h _ _ ⟨⟨by rw [fullT_flat, fullT_len]; simp, .inr ⟨g, cap, cur', by rw [fullT_len], Nat.zero_le _, hb', by rw [fullT_len]; exact hroom, hmx, by omega, ?_⟩⟩, fullT_one _ _⟩ (fun u p hu => full_sets g m n hu) ⟨World.os_setCells _ _ _ _, setCells_tape _ _ _ _, World.output_setCells _ _ _ _, by rw [setCells_size]; exact Nat.le_refl _, fun k hk hne => World.heap_setCells_other _ _ _ _ hk (fun q => hne (by simp [Value.ownBlock, q]))⟩ (fun k hk => .inl hk))
      rw [fullT_len, fullT_flat, Nat.mul_one]
      apply List.ext_getElem?
      intro j
      rw [List.getElem?_take]
      split
      · rename_i hj
        have hc1 : (w.setCells g n (List.replicate m (str M))).cell? ⟨g, j, none⟩ = some (str M) := by
          by_cases hjn : j < n
          · rw [World.cell?_setCells_out _ _ _ _ _ (fun _ _ => .inl hjn), cell_blk hb]
            have : (cur.toList.take ((fullT n M).length * 1))[j]? = some (str M) := by rw [htk, fullT_flat]; simp [hjn]
            rw [List.getElem?_take] at this
            split at this
            · rw [← Array.getElem?_toList]; exact this
            · cases this
          · have := World.cell?_setCells_in g (List.replicate m (str M)) n w (fun j hj => hthere j (by simpa using hj)) (j - n) (by simp; omega)
            rw [show n + (j - n) = j by omega] at this
            rw [this]; simp
        rw [cell_blk hb'] at hc1
        rw [Array.getElem?_toList, hc1]
        simp [hj]
      · rename_i hj
        rw [List.getElem?_eq_none (by simp; omega)]
    · refine wpList_full Tryz.underlying26 infoStr rfl hgd s x ho g n cap (fullT n M) hs hR ⟨gx, 0, none⟩ m m (fullT m M) hx hlm ?_ (fullT_one _ _) (by omega) (by unfold maxLen; omega) (by omega) ?_
      · intro j y hj
        rcases hsrc with ⟨q, -⟩ | ⟨ad, c, q, hq⟩
        · cases q
        · simp only [Value.slice.injEq, Option.some.injEq] at q
          obtain ⟨rfl, -, -⟩ := q
          exact hq j y hj
      · intro c' w' hR' hg hsz'
        rw [fullT_add] at hR'
        refine h _ w' hR' (fun u p hu => hu.grown hg) (Fr.ofGrown hg) (fun k hk => ?_)
        cases hk
        exact .inr rfl

theorem strRow_at (l : List (List UInt8)) {i : Nat} {b : List UInt8} (h : l[i]? = some b) : (strRow l)[i]? = some [str b] := by simp [strRow, h]

set_option maxRecDepth 100000 in
set_option maxHeartbeats 1000000 in
theorem same_texts (l : List (List UInt8)) (hl : l.length ≤ 100000) (v u : Value) (w : World) (hv : RowAt 9 1 v (strRow l) w) (hu : RowAt 9 1 u (strRow l) w) :
    Calls Tryz.prog 38 #[v, u] w fun e w' => e = .returned (.bool true) ∧ w.grownBy w' none := by
  obtain ⟨av, cv, rfl, hcv⟩ := hv.value
  obtain ⟨au, cu, rfl, hcu⟩ := hu.value
  rw [strRow_len] at hv hu hcv hcu ⊢
  have hne : ((l.length : Int) != (l.length : Int)) = false := by simp
  go_enter Tryz.func38, Tryz.ntmps38
  go_wp2_with fail
  go_loopg [5] l.length (fun g s5 wr => ∃ (i : Nat), s5 = .int .i64 i ∧ i ≤ l.length ∧ g = l.length - i ∧ w.grownBy wr none)
  case atStart => exact ⟨0, rfl, by omega, rfl, grown_refl _⟩
  case round =>
    obtain ⟨i, rfl, hi, hgk, hG⟩ := hrel
    by_cases hlt : i < l.length
    · have hli : (i : Int) < (l.length : Int) := by omega
      obtain ⟨b, hb⟩ : ∃ b, l[i]? = some b := ⟨l[i], by simp [hlt]⟩
      obtain ⟨g1, c1, cur1, hv1, -, hb1, hx1⟩ := (hv.grown hG).cell (i := i) (strRow_at l hb)
      obtain ⟨g2, c2, cur2, hv2, -, hb2, hx2⟩ := (hu.grown hG).cell (i := i) (strRow_at l hb)
      rw [strRow_len] at hv1 hv2
      cases hv1
      cases hv2
      have k1 : wr.cell? ⟨g1, i, none⟩ = some (str b) := (cell_blk hb1 _).trans (by simpa using hx1 0 _ rfl)
      have k2 : wr.cell? ⟨g2, i, none⟩ = some (str b) := (cell_blk hb2 _).trans (by simpa using hx2 0 _ rfl)
      clear hx1 hx2 hb
      go_wp2_with fail
      go_quiet (fail)
      go_wp2_with fail
      go_roundg (l.length - (i + 1))
      case measure => omega
      case rel => exact ⟨i + 1, by go_num, by omega, rfl, grown_trans hG (grown_drewN _ _)⟩
    · go_wp2_with fail
      go_ret
      exact ⟨rfl, hG⟩

set_option maxRecDepth 100000 in
set_option maxHeartbeats 1000000 in
theorem full_texts (n : Nat) (h8 : n ≤ 100000) (m : List UInt8) (v : Value) (w : World) (hv : RowAt 9 1 v (fullT n m) w) :
    Calls Tryz.prog 53 #[v, str m] w fun e w' => e = .returned (.bool true) ∧ w' = w := by
  obtain ⟨av, cv, rfl, hcv⟩ := hv.value
  rw [fullT_len] at hv hcv ⊢
  go_enter Tryz.func53, Tryz.ntmps53
  go_wp2_with fail
  go_loopg [5] n (fun g s5 wr => ∃ (i : Nat), s5 = .int .i64 i ∧ i ≤ n ∧ g = n - i ∧ wr = w)
  case atStart => exact ⟨0, rfl, by omega, rfl, rfl⟩
  case round =>
    obtain ⟨i, rfl, hi, hgk, hw⟩ := hrel
    rw [hw]
    clear hw wr
    by_cases hlt : i < n
    · have hli : (i : Int) < (n : Int) := by omega
      obtain ⟨g1, c1, cur1, hv1, -, hb1, hx1⟩ := hv.cell (i := i) (fullT_at hlt)
      rw [fullT_len] at hv1
      cases hv1
      have k1 : w.cell? ⟨g1, i, none⟩ = some (str m) := (cell_blk hb1 _).trans (by simpa using hx1 0 _ rfl)
      clear hx1
      go_wp2_with fail
      go_roundg (n - (i + 1))
      case measure => omega
      case rel => exact ⟨i + 1, by go_num, by omega, rfl, rfl⟩
    · go_wp2_with fail
      go_ret
      exact ⟨rfl, rfl⟩

end Go.Proofs.YtachmkhbbbmioaaGreat

import Derived.Test.YtachmkhbbbmioaaGreatRefC
import Derived.Laws.Runes
import Derived.Laws.Concat
namespace Go.Proofs.YtachmkhbbbmioaaGreat
open Go.RowKit Go.Shelf

theorem txt_step (L : List El) (i : Nat) (x : El) (h : L[i]? = some x) : (⟨(txt (L.take i)).toArray⟩ : ByteArray) ++ Utf8.encode x.r = ⟨(txt (L.take (i + 1))).toArray⟩ := by
  have e : (⟨(txt (L.take i)).toArray⟩ : ByteArray) ++ Utf8.encode x.r = ⟨(txt (L.take i)).toArray ++ (Utf8.encode x.r).data⟩ := by
    cases hx : Utf8.encode x.r with | mk d => exact ByteArray.ext (by rw [ByteArray.data_append])
  rw [e, List.take_add_one, h]
  congr 1
  rw [← Array.toList_inj, Array.toList_append, encode_eq x.ok]
  simp [txt]

theorem enc_le (x : El) : (Utf8.encode x.r).size ≤ 4 := by
  have h1 := (Lib.runeCells_le x.r).2
  have h2 := encode_eq x.ok
  have h3 : (Utf8.encode x.r).size = (Lib.encodeRune x.r).length := by rw [← h2]; rfl
  have := txt_le [x]
  simp [txt] at this
  omega

set_option maxRecDepth 100000 in
set_option maxHeartbeats 1000000 in
theorem ref_text (yb : Nat) (S : CS) (vc vl vw vL : Value) (log wt : List (List Value)) (w : World) (h : RefAt yb S vc vl vw vL log wt w) (hlen : S.L.length ≤ 1000000) :
    Calls Tryz.prog 43 #[.pointer (some ⟨yb, 0, none⟩)] w fun e w' => e = .returned (.string ⟨(txt (vis S.L)).toArray⟩) ∧ Below w.heap.size w w' := by
  have ht := ref_there yb S vc vl vw vL log wt w h hlen
  have hv : (vis S.L).length ≤ 1000000 := Nat.le_trans (List.length_filter_le _ _) hlen
  generalize vis S.L = V at ht hv ⊢
  go_enter Tryz.func43, Tryz.ntmps43
  go_wp2_with fail
  refine ht.mono ?_
  rintro e w1 ⟨v, rfl, hR, -, hB⟩
  obtain ⟨a, c, rfl, hc⟩ := hR.value
  rw [List.length_map] at hc hR ⊢
  go_wp2_with fail
  go_loopg [3, 5] V.length (fun g s3 s5 wr => ∃ (i : Nat), s5 = .int .i64 i ∧ i ≤ V.length ∧ g = V.length - i ∧ s3 = .string ⟨(txt (V.take i)).toArray⟩ ∧ wr = w1)
  case atStart => exact ⟨0, rfl, by omega, rfl, by simp [txt], rfl⟩
  case round =>
    obtain ⟨i, rfl, hil, hg, rfl, hw⟩ := hrel
    rw [hw]
    clear hw wr
    by_cases hlt : i < V.length
    · have hli : (i : Int) < (V.length : Int) := by omega
      have hx : V[i]? = some V[i] := by simp [hlt]
      generalize V[i] = x at hx
      obtain ⟨gL, cap, cur, hv, hcap, hbl, hcell⟩ := hR.cell (i := i) (x := elCells x) (by simp [hx])
      simp only [Value.slice.injEq] at hv
      obtain ⟨rfl, -, rfl⟩ := hv
      have k2 : w1.cell? ⟨gL, i * 4 + 2, none⟩ = some (.int .i64 x.r) := (cell_blk hbl (i * 4 + 2)).trans (hcell 2 _ rfl)
      obtain ⟨r0, r1, r2⟩ := x.ok
      have hst := txt_step V i x hx
      have hle := txt_le (V.take i)
      have hen := enc_le x
      have hadd : ∀ w, (Op.stringOp .add ⟨(txt (V.take i)).toArray⟩ (Utf8.encode x.r)).run Tryz.prog w = .ok (.string ⟨(txt (V.take (i + 1))).toArray⟩) w := fun w => by
        have e1 : (⟨(txt (V.take i)).toArray⟩ : ByteArray).size = (txt (V.take i)).length := by simp [ByteArray.size]
        have e2 : (V.take i).length ≤ 1000000 := by simp; omega
        have := run_string_add_sum (P := Tryz.prog) (w := w) ⟨(txt (V.take i)).toArray⟩ (Utf8.encode x.r) (by omega)
        rwa [hst] at this
      clear hst hle hen
      go_wp2_with fail
      go_roundg (V.length - (i + 1))
      case measure => omega
      case rel => exact ⟨i + 1, by go_num, by omega, rfl, rfl, rfl⟩
    · obtain rfl : i = V.length := by omega
      go_wp2_with fail
      go_ret
      exact ⟨by rw [List.take_length]; rfl, hB⟩

end Go.Proofs.YtachmkhbbbmioaaGreat

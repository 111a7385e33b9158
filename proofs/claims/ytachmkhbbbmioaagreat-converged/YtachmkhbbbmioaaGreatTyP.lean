import Derived.Test.YtachmkhbbbmioaaGreatFaceX
import Derived.Laws.Cover4
namespace Go.Proofs.YtachmkhbbbmioaaGreat
open Go.RowKit Go.Shelf

/-- ONE COPY IS A PLAIN TEXT: what holds of copy n of n behind m operations of its own, its text being rs. -/
structure Rel (S : CS) (rs : List Int) (m n : Nat) : Prop where
  good : Good S
  en : S.n = n
  es : S.s = n
  eg : S.g = m
  ecl : S.cl (n - 1) = m
  m100 : m ≤ 100
  ers : (vis S.L).map (·.r) = rs
  len : rs.length ≤ m

theorem rel_new {n : Nat} (h1 : 1 ≤ n) (h8 : n ≤ 8) : Rel (newS n n) [] 0 n :=
  ⟨newS_good h1 (Nat.le_refl _) h8, rfl, rfl, rfl, rfl, by omega, by simp [newS, vis], by simp⟩

theorem behind_top {S : CS} (hG : Good S) {r : Int} (hr : Lib.validRune r = true) {A R : List El} (h : S.L = A ++ R) : behind (newEl S r hr) R = newEl S r hr :: R := by
  refine behind_none _ _ ?_
  cases R with
  | nil =>
    have := hG.g0
    simp only [hdc, hdk, newEl]
    omega
  | cons y R =>
    have := (hG.mark y (by rw [h]; simp)).2
    simp only [hdc, hdk, newEl]
    omega

theorem bump_same (cl : Nat → Int) (i : Nat) : bump cl i i = cl i + 1 := by simp [bump]
theorem bump_other (cl : Nat → Int) {i j : Nat} (h : j ≠ i) : bump cl i j = cl j := by simp [bump, h]

theorem map_len {S : CS} {rs : List Int} (h : (vis S.L).map (·.r) = rs) : (vis S.L).length = rs.length := by rw [← h]; simp

theorem rel_ins {S : CS} {rs : List Int} {m n p : Nat} (h : Rel S rs m n) (hm : m < 100) {r : Int} (hr : Lib.validRune r = true) {A R : List El} (hL : S.L = A ++ R) (hA : (vis A).length = p) :
    Rel { S with cl := bump S.cl (S.s - 1), g := S.g + 1, L := A ++ behind (newEl S r hr) R, ops := opIns S (lc A) (lk A) r :: S.ops } (rs.take p ++ r :: rs.drop p) (m + 1) n := by
  have hG := h.good
  have e1 : vis (A ++ newEl S r hr :: R) = vis A ++ newEl S r hr :: vis R := by rw [vis_append, vis_cons_there rfl]
  have hv : vis S.L = vis A ++ vis R := by rw [hL, vis_append]
  have hlen := map_len h.ers
  have hl2 : (vis A).length + (vis R).length = rs.length := by rw [← hlen, hv]; simp
  have hrl := h.len
  rw [behind_top hG hr hL]
  refine ⟨⟨hG.s1, hG.sn, hG.n8, ?_, ?_, ?_, ?_, ?_⟩, h.en, h.es, ?_, ?_, by omega, ?_, ?_⟩
  · have := hG.g0; show 0 ≤ S.g + 1; omega
  · have := h.eg; show S.g + 1 ≤ _; omega
  · intro i hi
    show 0 ≤ bump S.cl (S.s - 1) i ∧ bump S.cl (S.s - 1) i ≤ 100
    by_cases q : i = S.s - 1
    · subst q
      have h2 := h.ecl
      rw [← h.es] at h2
      rw [bump_same, h2]; omega
    · rw [bump_other _ q]; exact hG.cl i hi
  · show (vis (A ++ newEl S r hr :: R)).length ≤ _
    rw [e1]; simp; omega
  · intro x hx
    show 0 < x.c ∧ x.c ≤ S.g + 1
    rcases List.mem_append.1 hx with hx | hx
    · have := hG.mark x (by rw [hL]; simp [hx]); omega
    · rcases List.mem_cons.1 hx with rfl | hx
      · have := hG.g0; simp only [newEl]; omega
      · have := hG.mark x (by rw [hL]; simp [hx]); omega
  · have := h.eg; show S.g + 1 = ((m + 1 : Nat) : Int); omega
  · show bump S.cl (S.s - 1) (n - 1) = _
    rw [h.es, bump_same, h.ecl]; omega
  · show (vis (A ++ newEl S r hr :: R)).map (·.r) = _
    rw [e1, ← h.ers, hv, List.map_append, List.map_append, List.map_cons]
    have h3 : (List.map (·.r) (vis A)).length = p := by simpa using hA
    rw [List.take_left' h3, List.drop_left' h3]
    rfl
  · simp only [List.length_append, List.length_take, List.length_cons, List.length_drop]; omega

theorem rel_del {S : CS} {rs : List Int} {m n p : Nat} (h : Rel S rs m n) (hm : m < 100) {A R : List El} {x : El} (hL : S.L = A ++ x :: R) (hA : (vis A).length = p) (hx : x.d = false) :
    Rel { S with cl := bump S.cl (S.s - 1), g := S.g + 1, L := A ++ gone x :: R, ops := opDel S x.c x.k :: S.ops } (rs.take p ++ rs.drop (p + 1)) (m + 1) n := by
  have hG := h.good
  have e1 : vis (A ++ gone x :: R) = vis A ++ vis R := by rw [vis_append, vis_cons_gone rfl]
  have hv : vis S.L = vis A ++ x :: vis R := by rw [hL, vis_append, vis_cons_there hx]
  have hlen := map_len h.ers
  have hl2 : (vis A).length + ((vis R).length + 1) = rs.length := by rw [← hlen, hv]; simp
  have hrl := h.len
  refine ⟨⟨hG.s1, hG.sn, hG.n8, ?_, ?_, ?_, ?_, ?_⟩, h.en, h.es, ?_, ?_, by omega, ?_, ?_⟩
  · have := hG.g0; show 0 ≤ S.g + 1; omega
  · have := h.eg; show S.g + 1 ≤ _; omega
  · intro i hi
    show 0 ≤ bump S.cl (S.s - 1) i ∧ bump S.cl (S.s - 1) i ≤ 100
    by_cases q : i = S.s - 1
    · subst q
      have h2 := h.ecl
      rw [← h.es] at h2
      rw [bump_same, h2]; omega
    · rw [bump_other _ q]; exact hG.cl i hi
  · show (vis (A ++ gone x :: R)).length ≤ _
    rw [e1]; simp; omega
  · intro y hy
    show 0 < y.c ∧ y.c ≤ S.g + 1
    rcases List.mem_append.1 hy with hy | hy
    · have := hG.mark y (by rw [hL]; simp [hy]); omega
    · rcases List.mem_cons.1 hy with rfl | hy
      · have := hG.mark x (by rw [hL]; simp)
        simp only [gone]; omega
      · have := hG.mark y (by rw [hL]; simp [hy]); omega
  · have := h.eg; show S.g + 1 = ((m + 1 : Nat) : Int); omega
  · show bump S.cl (S.s - 1) (n - 1) = _
    rw [h.es, bump_same, h.ecl]; omega
  · show (vis (A ++ gone x :: R)).map (·.r) = _
    have h3 : (List.map (·.r) (vis A)).length = p := by simpa using hA
    rw [e1, ← h.ers, hv, List.map_append, List.map_append, List.map_cons, List.take_left' h3, ← List.drop_drop, List.drop_left' h3]
    rfl
  · simp only [List.length_append, List.length_take, List.length_drop]; omega

/-- What an insert answers, and what comes of it. -/
def wantI (rs : List Int) (m : Nat) (p r : Int) : Int := if p < 0 ∨ (rs.length : Int) < p then 3 else if Lib.validRune r = false then 4 else if m = 100 then 5 else 0
def wantD (rs : List Int) (m : Nat) (p : Int) : Int := if p < 0 ∨ (rs.length : Int) ≤ p then 3 else if m = 100 then 5 else 0
def insT (rs : List Int) (p r : Int) : List Int := rs.take p.toNat ++ r :: rs.drop p.toNat
def delT (rs : List Int) (p : Int) : List Int := rs.take p.toNat ++ rs.drop (p.toNat + 1)

theorem full_iff {S : CS} {rs : List Int} {m n : Nat} (h : Rel S rs m n) : decide (100 ≤ S.cl (S.s - 1) ∨ 1099511627776 ≤ S.g) = decide (m = 100) := by
  have h1 := h.ecl
  have h2 := h.eg
  have h3 := h.m100
  rw [h.es, h1, h2]
  apply decide_eq_decide.2
  omega

/-- The bytes of the runes. -/
theorem encode_eq {r : Int} (h : Sc r) : (Utf8.encode r).data.toList = Lib.encodeRune r := by
  obtain ⟨h0, h1, h2⟩ := h
  have hv : Utf8.valid r = true := by
    unfold Utf8.valid
    simp
    omega
  obtain ⟨k, rfl⟩ := Int.eq_ofNat_of_zero_le h0
  unfold Utf8.encode Lib.encodeRune Lib.encodeRuneZ
  simp only [hv, if_true, Int.toNat_natCast]
  rcases (by omega : k < 128 ∨ (128 ≤ k ∧ k < 2048) ∨ (2048 ≤ k ∧ k < 65536) ∨ 65536 ≤ k) with c | c | c | c
  · rw [if_pos (show k < 128 from c), if_pos (show (0 : Int) ≤ (k : Int) ∧ (k : Int) ≤ 127 by omega)]
    simp
  · rw [if_neg (show ¬ k < 128 by omega), if_pos (show k < 2048 by omega), if_neg (show ¬ ((0 : Int) ≤ (k : Int) ∧ (k : Int) ≤ 127) by omega), if_pos (show (128 : Int) ≤ (k : Int) ∧ (k : Int) ≤ 2047 by omega)]
    have e1 : (192 + (k : Int) / 64).toNat = 192 + k / 64 := by omega
    have e2 : (128 + (k : Int) % 64).toNat = 128 + k % 64 := by omega
    simp only [List.map_cons, List.map_nil, e1, e2]
  · rw [if_neg (show ¬ k < 128 by omega), if_neg (show ¬ k < 2048 by omega), if_pos (show k < 65536 by omega), if_neg (show ¬ ((0 : Int) ≤ (k : Int) ∧ (k : Int) ≤ 127) by omega), if_neg (show ¬ ((128 : Int) ≤ (k : Int) ∧ (k : Int) ≤ 2047) by omega),
      if_pos (show ((2048 : Int) ≤ (k : Int) ∧ (k : Int) < 55296) ∨ ((57343 : Int) < (k : Int) ∧ (k : Int) ≤ 65535) by omega)]
    have e1 : (224 + (k : Int) / 4096).toNat = 224 + k / 4096 := by omega
    have e2 : (128 + (k : Int) / 64 % 64).toNat = 128 + k / 64 % 64 := by omega
    have e3 : (128 + (k : Int) % 64).toNat = 128 + k % 64 := by omega
    simp only [List.map_cons, List.map_nil, e1, e2, e3]
  · rw [if_neg (show ¬ k < 128 by omega), if_neg (show ¬ k < 2048 by omega), if_neg (show ¬ k < 65536 by omega), if_neg (show ¬ ((0 : Int) ≤ (k : Int) ∧ (k : Int) ≤ 127) by omega), if_neg (show ¬ ((128 : Int) ≤ (k : Int) ∧ (k : Int) ≤ 2047) by omega),
      if_neg (show ¬ (((2048 : Int) ≤ (k : Int) ∧ (k : Int) < 55296) ∨ ((57343 : Int) < (k : Int) ∧ (k : Int) ≤ 65535)) by omega), if_pos (show (65536 : Int) ≤ (k : Int) ∧ (k : Int) ≤ 1114111 by omega)]
    have e1 : (240 + (k : Int) / 262144).toNat = 240 + k / 262144 := by omega
    have e2 : (128 + (k : Int) / 4096 % 64).toNat = 128 + k / 4096 % 64 := by omega
    have e3 : (128 + (k : Int) / 64 % 64).toNat = 128 + k / 64 % 64 := by omega
    have e4 : (128 + (k : Int) % 64).toNat = 128 + k % 64 := by omega
    simp only [List.map_cons, List.map_nil, e1, e2, e3, e4]

theorem foldl_encode : ∀ (L : List El) (s : ByteArray), ((L.map (·.r)).foldl (fun b n => b ++ Utf8.encode n) s).data.toList = s.data.toList ++ txt L
  | [], s => by simp [txt]
  | x :: L, s => by
    rw [List.map_cons, List.foldl_cons, foldl_encode L, ByteArray.data_append]
    simp only [Array.toList_append, encode_eq x.ok, txt, List.flatMap_cons, List.append_assoc]

theorem runes_txt (L : List El) : runesBytes (L.map (·.r)) = ⟨(txt L).toArray⟩ := by
  have h := foldl_encode L ByteArray.empty
  unfold runesBytes
  generalize (L.map (·.r)).foldl (fun b n => b ++ Utf8.encode n) ByteArray.empty = b at h
  obtain ⟨d⟩ := b
  simp only at h
  congr 1
  rw [← Array.toList_inj]
  simpa using h

end Go.Proofs.YtachmkhbbbmioaaGreat

import Derived.Test.YtachmkhbbbmioaaGreatOpAX
import Derived.RangeFuncRecord
import Derived.Below
import Derived.Test.YtachmkhbbbmioaaGreatReads
namespace Go.Proofs.YtachmkhbbbmioaaGreat
open Go.RowKit

/-- A store into a map, with what is left of the world. -/
theorem upd_ex {P : Program} {T K E : TypeId} (H : KeyT P T K E) {w : World} {b : Nat} {l : List Ent} (h : entsAt w b l) (c k : Int) (v : Value) :
    ∃ w2, (Instr.mapUpdate T (.map (some b)) (.agg #[.int .i64 c, .int .i64 k]) v).run P w = .ok () w2 ∧ (∀ a, w2.cell? a = w.cell? a) ∧ (∀ a, w2.frozen? a = w.frozen? a) ∧ w2.heap.size = w.heap.size ∧ w.grownBy w2 (some b) ∧ ∃ n, entsAt w2 b (put c k v n l) := by
  obtain ⟨o, n, h1, h2⟩ := run_update H h c k v
  have hlt := h.lt
  have h3 : (w.putObj b o).heap[b]? = some o := World.putObj_heap_same hlt
  have h4 : ∃ es clk, o = .map es clk := by
    obtain ⟨clk, h2⟩ := h2
    rw [h3] at h2
    exact ⟨_, _, Option.some.inj h2⟩
  obtain ⟨es, clk, rfl⟩ := h4
  obtain ⟨clk0, h0⟩ := h
  refine ⟨_, h1, fun a => ?_, fun a => ?_, by simp, ⟨rfl, rfl, rfl, by simp, fun j _ hj => World.putObj_heap_other (fun e => hj (by rw [e]))⟩, n, h2⟩
  · by_cases e : a.block = b
    · simp [World.cell?, e, h3, h0]
    · exact World.cell?_of_block (World.putObj_heap_other e)
  · by_cases e : a.block = b
    · simp [World.frozen?, e, h3, h0]
    · exact World.frozen?_of_block (World.putObj_heap_other e)

theorem chain_at {E : List Ent} {x : El} {R : List El} : ∀ {A : List El}, chain E (A ++ x :: R) → look x.c x.k E = some (ev x.r x.d (hdc R) (hdk R)) ∧ ¬ (x.c = 0 ∧ x.k = 0)
  | [], h => ⟨h.1, h.2.1⟩
  | _ :: A, h => chain_at (A := A) h.2.2

theorem chain_mk {E : List Ent} : ∀ {L : List El}, (∀ A x R, L = A ++ x :: R → look x.c x.k E = some (ev x.r x.d (hdc R) (hdk R)) ∧ ¬ (x.c = 0 ∧ x.k = 0)) → chain E L
  | [], _ => trivial
  | x :: L, h => ⟨(h [] x L rfl).1, (h [] x L rfl).2, chain_mk (fun A y R e => h (x :: A) y R (by rw [e]; rfl))⟩

/-- The last element's mark, rune and state; the beginning's where there is none. -/
def lc : List El → Int | [] => 0 | [x] => x.c | _ :: y :: A => lc (y :: A)
def lk : List El → Int | [] => 0 | [x] => x.k | _ :: y :: A => lk (y :: A)
def lr : List El → Int | [] => 0 | [x] => x.r | _ :: y :: A => lr (y :: A)
def ld : List El → Bool | [] => false | [x] => x.d | _ :: y :: A => ld (y :: A)

theorem last_snoc (A : List El) (x : El) : lc (A ++ [x]) = x.c ∧ lk (A ++ [x]) = x.k ∧ lr (A ++ [x]) = x.r ∧ ld (A ++ [x]) = x.d := by
  induction A with
  | nil => exact ⟨rfl, rfl, rfl, rfl⟩
  | cons y A ih => cases A with
    | nil => exact ⟨rfl, rfl, rfl, rfl⟩
    | cons z A => exact ih

theorem snoc_cases (A : List El) : A = [] ∨ ∃ B x, A = B ++ [x] := by
  rcases List.eq_nil_or_concat A with h | ⟨B, x, h⟩
  · exact .inl h
  · exact .inr ⟨B, x, by simpa using h⟩

theorem look_last {E : List Ent} {A R : List El} (h : LineIs E (A ++ R)) : look (lc A) (lk A) E = some (ev (lr A) (ld A) (hdc R) (hdk R)) := by
  rcases snoc_cases A with rfl | ⟨B, x, rfl⟩
  · exact h.begin
  · obtain ⟨e1, e2, e3, e4⟩ := last_snoc B x
    rw [e1, e2, e3, e4]
    have := h.chain
    rw [List.append_assoc] at this
    exact (chain_at this).1

/-- Is the mark of y above that of e? -/
abbrev abv (y e : El) : Prop := e.c < y.c ∨ (y.c = e.c ∧ e.k < y.k)

/-- The new element behind those that follow with marks above its own. -/
def behind (e : El) : List El → List El
  | [] => [e]
  | y :: R => if abv y e then y :: behind e R else e :: y :: R

def fresh (e : El) (L : List El) : Prop := ¬ (e.c = 0 ∧ e.k = 0) ∧ ∀ x ∈ L, ¬ (x.c = e.c ∧ x.k = e.k)

theorem hd_append_cons (T R : List El) (e : El) (h : T ≠ []) : hdc (T ++ e :: R) = hdc (T ++ R) ∧ hdk (T ++ e :: R) = hdk (T ++ R) := by
  cases T with
  | nil => exact (h rfl).elim
  | cons y T => exact ⟨rfl, rfl⟩

theorem apart_mem {A R : List El} {x : El} (h : (A ++ x :: R).Pairwise (fun x y => ¬ (x.c = y.c ∧ x.k = y.k))) : (∀ y ∈ A, ¬ (y.c = x.c ∧ y.k = x.k)) ∧ (∀ y ∈ R, ¬ (x.c = y.c ∧ x.k = y.k)) := by
  rw [List.pairwise_append] at h
  exact ⟨fun y hy => h.2.2 y hy x (by simp), fun y hy => (List.pairwise_cons.1 h.2.1).1 y hy⟩

/-- TO LAY AN ELEMENT: its entry, and the one ahead of it leads to it. -/
theorem lineIs_lay {E : List Ent} {A R : List El} (h : LineIs E (A ++ R)) (e : El) (hf : fresh e (A ++ R)) (n1 n2 : Nat) (hd : e.d = false) :
    LineIs (put (lc A) (lk A) (ev (lr A) (ld A) e.c e.k) n2 (put e.c e.k (ev e.r false (hdc R) (hdk R)) n1 E)) (A ++ e :: R) := by
  have hne : ¬ (lc A = e.c ∧ lk A = e.k) := by
    rcases snoc_cases A with rfl | ⟨B, x, rfl⟩
    · intro q; exact hf.1 ⟨q.1.symm, q.2.symm⟩
    · obtain ⟨e1, e2, -, -⟩ := last_snoc B x
      rw [e1, e2]
      exact hf.2 x (by simp)
  refine ⟨?_, chain_mk ?_, ?_, ?_⟩
  · -- the beginning
    rw [look_put, look_put]
    rcases snoc_cases A with rfl | ⟨B, x, rfl⟩
    · rw [if_pos ⟨rfl, rfl⟩]; rfl
    · obtain ⟨e1, e2, -, -⟩ := last_snoc B x
      have hx := h.chain
      rw [List.append_assoc] at hx
      have hx0 := (chain_at hx).2
      rw [e1, e2, if_neg (fun q => hx0 ⟨q.1.symm, q.2.symm⟩), if_neg (fun q => hf.1 ⟨q.1.symm, q.2.symm⟩)]
      have := h.begin
      rw [this]
      have h2 := hd_append_cons (B ++ [x]) R e (by simp)
      rw [h2.1, h2.2]
  · intro A2 x R2 hx
    rw [look_put, look_put]
    rcases List.append_eq_append_iff.1 hx with ⟨T, h1, h2⟩ | ⟨T, h1, h2⟩
    · -- x is e, or lies behind it
      cases T with
      | nil =>
        simp only [List.nil_append, List.cons.injEq] at h2
        obtain ⟨rfl, rfl⟩ := h2
        rw [if_neg (fun q => hne ⟨q.1.symm, q.2.symm⟩), if_pos ⟨rfl, rfl⟩, hd]
        exact ⟨rfl, hf.1⟩
      | cons z T =>
        simp only [List.cons_append, List.cons.injEq] at h2
        obtain ⟨rfl, rfl⟩ := h2
        have hc : chain E (A ++ (T ++ x :: R2)) := h.chain
        rw [← List.append_assoc] at hc
        have hx1 := chain_at hc
        have hxe := hf.2 x (by simp)
        have hp := h.apart
        have hlast : ¬ (x.c = lc A ∧ x.k = lk A) := by
          rcases snoc_cases A with rfl | ⟨B, y, rfl⟩
          · intro q; exact hx1.2 q
          · obtain ⟨e1, e2, -, -⟩ := last_snoc B y
            rw [e1, e2]
            have := (apart_mem (A := B ++ [y] ++ T) (x := x) (R := R2) (by simpa using hp)).1 y (by simp)
            intro q; exact this ⟨q.1.symm, q.2.symm⟩
        rw [if_neg hlast, if_neg hxe]
        exact hx1
    · -- x lies ahead of e
      cases T with
      | nil =>
        simp only [List.nil_append, List.cons.injEq] at h2
        obtain ⟨rfl, rfl⟩ := h2
        rw [if_neg (fun q => hne ⟨q.1.symm, q.2.symm⟩), if_pos ⟨rfl, rfl⟩, hd]
        exact ⟨rfl, hf.1⟩
      | cons z T =>
        simp only [List.cons_append, List.cons.injEq] at h2
        obtain ⟨rfl, rfl⟩ := h2
        subst h1
        have hc : chain E (A2 ++ x :: (T ++ R)) := by have := h.chain; simpa using this
        have hx1 := chain_at hc
        have hxe := hf.2 x (by simp)
        rcases snoc_cases T with rfl | ⟨B, y, rfl⟩
        · obtain ⟨e1, e2, e3, e4⟩ := last_snoc A2 x
          rw [e1, e2, e3, e4, if_pos ⟨rfl, rfl⟩]
          exact ⟨rfl, hx1.2⟩
        · have ey := last_snoc (A2 ++ x :: B) y
          rw [show A2 ++ x :: (B ++ [y]) = A2 ++ x :: B ++ [y] from by simp, ey.1, ey.2.1]
          have hp := (apart_mem (A := A2) (x := x) (R := B ++ [y] ++ R) (by have := h.apart; simpa using this)).2 y (by simp)
          rw [if_neg hp, if_neg hxe, hx1.1]
          have h2 := hd_append_cons (B ++ [y]) R e (by simp)
          rw [h2.1, h2.2]
          exact ⟨rfl, hx1.2⟩
  · have hp := h.apart
    rw [List.pairwise_append] at hp ⊢
    refine ⟨hp.1, List.pairwise_cons.2 ⟨fun y hy q => hf.2 y (by simp [hy]) ⟨q.1.symm, q.2.symm⟩, hp.2.1⟩, fun y hy z hz => ?_⟩
    rcases List.mem_cons.1 hz with rfl | hz
    · exact hf.2 y (by simp [hy])
    · exact hp.2.2 y hy z hz
  · intro c k hck
    rw [look_put, look_put] at hck
    by_cases q1 : c = e.c ∧ k = e.k
    · exact .inr ⟨e, by simp, q1.1.symm, q1.2.symm⟩
    · by_cases q2 : c = lc A ∧ k = lk A
      · rcases snoc_cases A with rfl | ⟨B, x, rfl⟩
        · exact .inl q2
        · obtain ⟨e1, e2, -, -⟩ := last_snoc B x
          exact .inr ⟨x, by simp, by rw [q2.1, e1], by rw [q2.2, e2]⟩
      · rw [if_neg q2, if_neg q1] at hck
        rcases h.only c k hck with q | ⟨x, hx, q⟩
        · exact .inl q
        · exact .inr ⟨x, by rcases List.mem_append.1 hx with h1 | h1 <;> simp [h1], q⟩

end Go.Proofs.YtachmkhbbbmioaaGreat

namespace Go.Proofs.YtachmkhbbbmioaaGreat
open Go.RowKit Go.Shelf
attribute [local go_sem ↓] Go.wp_at_zero Go.wp_at_succ
attribute [local simp] entsAt_drew entsAt_setCell entsAt_alloc

theorem Ln.below {lb mb : Nat} {E : List Ent} {w w' : World} (h : Ln lb mb E w) (g : Below w.heap.size w w') : Ln lb mb E w' :=
  ⟨(g.block _ (lt_of_heap h.line)).trans h.line, h.ents.of_block (g.block _ h.ents.lt)⟩

theorem behind_none (e : El) (R : List El) (h : ¬ (e.c < hdc R ∨ (hdc R = e.c ∧ e.k < hdk R))) : behind e R = e :: R := by
  cases R with
  | nil => rfl
  | cons y R => unfold behind; exact if_neg h
theorem behind_some (e : El) (R : List El) (hp : 0 < e.c) (h : e.c < hdc R ∨ (hdc R = e.c ∧ e.k < hdk R)) : ∃ y S, R = y :: S ∧ behind e R = y :: behind e S := by
  cases R with
  | nil => simp only [hdc, hdk] at h; omega
  | cons y R => exact ⟨y, R, rfl, by rw [behind]; exact if_pos h⟩

set_option maxRecDepth 100000 in
set_option maxHeartbeats 2000000 in
theorem lay_any (lb mb : Nat) (E : List Ent) (A R : List El) (e : El) (w : World) (hl : Ln lb mb E w) (hL : LineIs E (A ++ R)) (hf : fresh e (A ++ R)) (hd : e.d = false) (hp : 0 < e.c) :
    Calls Tryz.prog 158 #[.pointer (some ⟨lb, 0, none⟩), .agg #[.int .i64 e.c, .int .i64 e.k], .agg #[.int .i64 (lc A), .int .i64 (lk A)], .int .i32 e.r] w fun r w' => r = .returned (.tuple #[]) ∧
      ∃ E', Ln lb mb E' w' ∧ LineIs E' (A ++ behind e R) ∧ w.grownBy w' (some mb) := by
  have HD : Hid (e.d = false) := hd
  clear hd
  have hfn := fieldNext
  go_enter Tryz.func158, Tryz.ntmps158
  go_wp2_with fail
  go_loopg [11] R.length (fun g _ wr => ∃ (A' R' : List El), A ++ R = A' ++ R' ∧ A ++ behind e R = A' ++ behind e R' ∧ g = R'.length ∧ wr.heap[w.heap.size + 1 + 1]? = some (.cells #[.int .i64 (lc A'), .int .i64 (lk A')] 152) ∧ wr.heap[w.heap.size]? = some (.cells #[.int .i64 e.c, .int .i64 e.k] 152) ∧ Below w.heap.size w wr)
  case atStart =>
    refine ⟨A, R, rfl, rfl, rfl, ?_, ?_, (((Below.refl _ w).alloc (Nat.le_refl _) _).alloc (by simp) _).alloc (by simp; omega) _⟩
    · simp only [heap_alloc_at, World.size_alloc]; simp
    · simp only [heap_alloc_at, World.size_alloc]; simp; omega
  case round =>
    obtain ⟨A', R', hAR, hbe, hgk, hb8, hb5, hB⟩ := hrel
    have hl' := hl.below hB
    have c1 : wr.cell? ⟨lb, 0, none⟩ = some (.map (some mb)) := cell_blk hl'.line 0
    have c2 := hl'.ents
    have c3 : wr.cell? ⟨w.heap.size + 1 + 1, 0, none⟩ = some (.int .i64 (lc A')) := cell_blk hb8 0
    have c4 : wr.cell? ⟨w.heap.size + 1 + 1, 1, none⟩ = some (.int .i64 (lk A')) := cell_blk hb8 1
    have c5 : wr.cell? ⟨w.heap.size, 0, none⟩ = some (.int .i64 e.c) := cell_blk hb5 0
    have c6 : wr.cell? ⟨w.heap.size, 1, none⟩ = some (.int .i64 e.k) := cell_blk hb5 1
    have hL' := hL
    rw [hAR] at hL'
    have hf' := hf
    rw [hAR] at hf'
    have hlk := fun w' (h : entsAt w' mb E) => lookZ E w' mb h (lc A') (lk A')
    rw [look_last hL'] at hlk
    simp only [Option.getD_some, ev] at hlk
    have HX : Hid (A ++ R = A' ++ R' ∧ A ++ behind e R = A' ++ behind e R' ∧ gk = R'.length) := ⟨hAR, hbe, hgk⟩
    clear hAR hbe hgk
    have n1 := World.new_ne wr _ c1
    have n2 := World.new_ne wr _ c3
    have n3 := World.new_ne wr _ c5
    have hA := fun w => above_any (hdc R') (hdk R') e.c e.k w
    by_cases hab : e.c < hdc R' ∨ (hdc R' = e.c ∧ e.k < hdk R')
    · simp only [hab, decide_true] at hA
      have HB : Hid (e.c < hdc R' ∨ (hdc R' = e.c ∧ e.k < hdk R')) := hab
      clear hab
      go_wp2_with fail
      go_region_held3 (fun w' => w'.cell? ⟨lb, 0, none⟩ = some (.map (some mb)) ∧ entsAt w' mb E ∧ w'.cell? ⟨w.heap.size + 1 + 1, 0, none⟩ = some (.int .i64 (lc A')) ∧ w'.cell? ⟨w.heap.size + 1 + 1, 1, none⟩ = some (.int .i64 (lk A')) ∧ w'.cell? ⟨w.heap.size, 0, none⟩ = some (.int .i64 e.c) ∧ w'.cell? ⟨w.heap.size, 1, none⟩ = some (.int .i64 e.k)) (go_keep)
        (first | (go_at_call 167; refine (hA _).mono ?_; rintro e w' ⟨rfl, rfl⟩))
      go_wp2_with fail
      have g1 : wr.grownBy ((wr.alloc (.cells #[.int .i64 (hdc R'), .int .i64 (hdk R')] 152)).alloc (.cells #[.int .i64 e.c, .int .i64 e.k] 152)).drew none := grown_drew (grown_alloc (grown_alloc (grown_refl _) _) _)
      generalize ((wr.alloc (.cells #[.int .i64 (hdc R'), .int .i64 (hdk R')] 152)).alloc (.cells #[.int .i64 e.c, .int .i64 e.k] 152)).drew = w1 at g1 ⊢
      have hB1 : Below w.heap.size w w1 := hB.grown g1 hB.size (by simp)
      have hl1 := hl.below hB1
      have k8 := blk_grown hb8 g1
      have k5 := blk_grown hb5 g1
      clear c1 c2 c3 c4 c5 c6 n1 n2 n3 hA hb8 hb5 hB hl' g1
      have c1 : w1.cell? ⟨lb, 0, none⟩ = some (.map (some mb)) := cell_blk hl1.line 0
      have c2 := hl1.ents
      have c3 : w1.cell? ⟨w.heap.size + 1 + 1, 0, none⟩ = some (.int .i64 (lc A')) := cell_blk k8 0
      have c4 : w1.cell? ⟨w.heap.size + 1 + 1, 1, none⟩ = some (.int .i64 (lk A')) := cell_blk k8 1
      have f3 : w1.frozen? ⟨w.heap.size + 1 + 1, 0, none⟩ = false := frozen_blk k8 0
      have f4 : w1.frozen? ⟨w.heap.size + 1 + 1, 1, none⟩ = false := frozen_blk k8 1
      go_region
      all_goals go_wp2_with fail
      obtain ⟨y, S, rfl, hbs⟩ := behind_some e R' hp HB.out
      go_roundg S.length
      case measure => have := HX.out.2.2; simp at this; omega
      case rel =>
        obtain ⟨e1, e2, -, -⟩ := last_snoc A' y
        refine ⟨A' ++ [y], S, by rw [HX.out.1]; simp, by rw [HX.out.2.1, hbs]; simp, rfl, ?_, ?_, ?_⟩
        · rw [e1, e2]
          show ((w1.setCell _ _).setCell _ _).heap[_]? = _
          rw [set_blk (set_blk k8)]; rfl
        · show ((w1.setCell _ _).setCell _ _).heap[_]? = _
          rw [Below.heap_setCell _ _ _ _ (by simp; omega), Below.heap_setCell _ _ _ _ (by simp; omega)]; exact k5
        · exact ((hB1.setCell (p := ⟨w.heap.size + 1 + 1, 0, none⟩) (by simp; omega) _).setCell (p := ⟨w.heap.size + 1 + 1, 1, none⟩) (by simp; omega) _).drew
    · simp only [hab, decide_false] at hA
      have hbn := behind_none e R' hab
      have HB : Hid (behind e R' = e :: R') := hbn
      clear hab hbn
      go_wp2_with fail
      go_region_held3 (fun w' => w'.cell? ⟨lb, 0, none⟩ = some (.map (some mb)) ∧ entsAt w' mb E ∧ w'.cell? ⟨w.heap.size + 1 + 1, 0, none⟩ = some (.int .i64 (lc A')) ∧ w'.cell? ⟨w.heap.size + 1 + 1, 1, none⟩ = some (.int .i64 (lk A')) ∧ w'.cell? ⟨w.heap.size, 0, none⟩ = some (.int .i64 e.c) ∧ w'.cell? ⟨w.heap.size, 1, none⟩ = some (.int .i64 e.k)) (go_keep)
        (first | (go_at_call 167; refine (hA _).mono ?_; rintro e w' ⟨rfl, rfl⟩))
      go_wp2_with fail
      have g1 : wr.grownBy ((wr.alloc (.cells #[.int .i64 (hdc R'), .int .i64 (hdk R')] 152)).alloc (.cells #[.int .i64 e.c, .int .i64 e.k] 152)).drew none := grown_drew (grown_alloc (grown_alloc (grown_refl _) _) _)
      generalize ((wr.alloc (.cells #[.int .i64 (hdc R'), .int .i64 (hdk R')] 152)).alloc (.cells #[.int .i64 e.c, .int .i64 e.k] 152)).drew = w1 at g1 ⊢
      have hB1 : Below w.heap.size w w1 := hB.grown g1 hB.size (by simp)
      have hl1 := hl.below hB1
      have k8 := blk_grown hb8 g1
      have k5 := blk_grown hb5 g1
      clear c1 c2 c3 c4 c5 c6 n1 n2 n3 hA hb8 hb5 hB hl' g1
      have c1 : w1.cell? ⟨lb, 0, none⟩ = some (.map (some mb)) := cell_blk hl1.line 0
      have c2 := hl1.ents
      have c3 : w1.cell? ⟨w.heap.size + 1 + 1, 0, none⟩ = some (.int .i64 (lc A')) := cell_blk k8 0
      have c4 : w1.cell? ⟨w.heap.size + 1 + 1, 1, none⟩ = some (.int .i64 (lk A')) := cell_blk k8 1
      have n1 := World.new_ne w1 _ c1
      have n2 := World.new_ne w1 _ c3
      go_cut [9] (fun s9 wx => ∃ b9 : Nat, s9 = .pointer (some ⟨b9, 0, none⟩) ∧ wx.heap[b9]? = some (.cells #[.int .i32 (lr A'), .bool (ld A'), .int .i64 (hdc R'), .int .i64 (hdk R')] 203) ∧ w1.grownBy wx none ∧ w1.heap.size ≤ b9)
      case first =>
        go_region_held3 (fun w' => w'.cell? ⟨lb, 0, none⟩ = some (.map (some mb)) ∧ entsAt w' mb E ∧ w'.cell? ⟨w.heap.size + 1 + 1, 0, none⟩ = some (.int .i64 (lc A')) ∧ w'.cell? ⟨w.heap.size + 1 + 1, 1, none⟩ = some (.int .i64 (lk A'))) (go_keep) (fail)
        all_goals (go_wp2_with fail; go_meet)
        all_goals exact ⟨_, rfl, by simp only [heap_drew, heap_alloc_at]; simp, by repeat (first | exact grown_refl _ | refine grown_drew ?_ | refine grown_alloc ?_ _), Nat.le_refl _⟩
      case rest =>
      obtain ⟨b9, rfl, hb9, g2, hge⟩ := hcut
      have hB2 : Below w.heap.size w wc := hB1.grown g2 hB1.size (by simp)
      have hl2 := hl.below hB2
      have j8 := blk_grown k8 g2
      have j5 := blk_grown k5 g2
      have hne9 : b9 ≠ w.heap.size + 1 + 1 := by intro q; rw [q, j8] at hb9; cases hb9
      have hne5 : b9 ≠ w.heap.size := by intro q; rw [q, j5] at hb9; cases hb9
      have hge9 : w.heap.size ≤ b9 := Nat.le_trans hB1.size hge
      clear hge
      clear c1 c2 c3 c4 n1 n2 hlk k8 k5 hB1 hl1 g2
      have c1 : wc.cell? ⟨lb, 0, none⟩ = some (.map (some mb)) := cell_blk hl2.line 0
      have c5 : wc.cell? ⟨w.heap.size, 0, none⟩ = some (.int .i64 e.c) := cell_blk j5 0
      have c6 : wc.cell? ⟨w.heap.size, 1, none⟩ = some (.int .i64 e.k) := cell_blk j5 1
      have c7 : wc.cell? ⟨b9, 2, none⟩ = some (.int .i64 (hdc R')) := cell_blk hb9 2
      have c8 : wc.cell? ⟨b9, 3, none⟩ = some (.int .i64 (hdk R')) := cell_blk hb9 3
      have f7 : wc.frozen? ⟨b9, 2, none⟩ = false := frozen_blk hb9 2
      have f8 : wc.frozen? ⟨b9, 3, none⟩ = false := frozen_blk hb9 3
      obtain ⟨w2, hu2, hc2, hz2, hs2, hg2, m1, he2⟩ := upd_ex keyMark (w := wc.drew) hl2.ents e.c e.k (.agg #[.int .i32 e.r, .bool false, .int .i64 (hdc R'), .int .i64 (hdk R')])
      go_wp2_with fail
      go_region_held3 (fun w' => w'.cell? ⟨lb, 0, none⟩ = some (.map (some mb)) ∧ w'.cell? ⟨w.heap.size, 0, none⟩ = some (.int .i64 e.c) ∧ w'.cell? ⟨w.heap.size, 1, none⟩ = some (.int .i64 e.k) ∧ w'.cell? ⟨b9, 2, none⟩ = some (.int .i64 (hdc R')) ∧ w'.cell? ⟨b9, 3, none⟩ = some (.int .i64 (hdk R'))) (go_keep) (fail)
      go_wp2_with fail
      have hmb9 : b9 ≠ mb := by intro q; rw [q] at hb9; obtain ⟨clk, hq⟩ := hl2.ents; rw [hq] at hb9; cases hb9
      have hmb8 : w.heap.size + 1 + 1 ≠ mb := by intro q; rw [q] at j8; obtain ⟨clk, hq⟩ := hl2.ents; rw [hq] at j8; cases j8
      have hmbl : lb ≠ mb := by intro q; have := hl2.line; rw [q] at this; obtain ⟨clk, hq⟩ := hl2.ents; rw [hq] at this; cases this
      have hlb9 : lb ≠ b9 := by intro q; have := lt_of_heap hl.line; omega
      have i9 : w2.heap[b9]? = some (.cells #[.int .i32 (lr A'), .bool (ld A'), .int .i64 (hdc R'), .int .i64 (hdk R')] 203) := (hg2.block b9 (lt_of_heap hb9) (by simpa using hmb9)).trans hb9
      have i8 : w2.heap[w.heap.size + 1 + 1]? = some (.cells #[.int .i64 (lc A'), .int .i64 (lk A')] 152) := (hg2.block _ (lt_of_heap j8) (by simpa using hmb8)).trans j8
      have il : w2.heap[lb]? = some (.cells #[.map (some mb)] 206) := (hg2.block lb (lt_of_heap hl2.line) (by simpa using hmbl)).trans hl2.line
      have gw : w.grownBy ((w2.setCell ⟨b9, 2, none⟩ (.int .i64 e.c)).setCell ⟨b9, 3, none⟩ (.int .i64 e.k)) (some mb) := by
        refine ⟨hg2.os.trans hB2.os, hg2.tape.trans hB2.tape, hg2.output.trans hB2.output, ?_, fun k hk hne => ?_⟩
        · have h1 := hB2.size
          have h2 := hg2.size
          simp only [World.setCell, Array.size_modify] at h2 ⊢
          exact Nat.le_trans h1 h2
        · rw [Below.heap_setCell _ _ _ _ (by simp; omega), Below.heap_setCell _ _ _ _ (by simp; omega)]
          exact (hg2.block k (Nat.lt_of_lt_of_le hk hB2.size) hne).trans (hB2.block k hk)
      have e9 : ((w2.setCell ⟨b9, 2, none⟩ (.int .i64 e.c)).setCell ⟨b9, 3, none⟩ (.int .i64 e.k)).heap[b9]? = some (.cells #[.int .i32 (lr A'), .bool (ld A'), .int .i64 e.c, .int .i64 e.k] 203) := by
        rw [set_blk (set_blk i9)]; rfl
      have e8 : ((w2.setCell ⟨b9, 2, none⟩ (.int .i64 e.c)).setCell ⟨b9, 3, none⟩ (.int .i64 e.k)).heap[w.heap.size + 1 + 1]? = some (.cells #[.int .i64 (lc A'), .int .i64 (lk A')] 152) := by
        rw [Below.heap_setCell _ _ _ _ (fun q => hne9 q.symm), Below.heap_setCell _ _ _ _ (fun q => hne9 q.symm)]; exact i8
      have el : ((w2.setCell ⟨b9, 2, none⟩ (.int .i64 e.c)).setCell ⟨b9, 3, none⟩ (.int .i64 e.k)).heap[lb]? = some (.cells #[.map (some mb)] 206) := by
        rw [Below.heap_setCell _ _ _ _ hlb9, Below.heap_setCell _ _ _ _ hlb9]; exact il
      have ee := entsAt_setCell (a := ⟨b9, 3, none⟩) (v := .int .i64 e.k) (entsAt_setCell (a := ⟨b9, 2, none⟩) (v := .int .i64 e.c) he2)
      generalize ((w2.setCell ⟨b9, 2, none⟩ (.int .i64 e.c)).setCell ⟨b9, 3, none⟩ (.int .i64 e.k)) = w3 at gw e9 e8 el ee ⊢
      clear c1 c5 c6 c7 c8 f7 f8 hu2 hc2 hz2 hs2 hg2 he2 i9 i8 il hb9 j8 j5 hl2 hB2
      have c1 : w3.cell? ⟨lb, 0, none⟩ = some (.map (some mb)) := cell_blk el 0
      have c2 : w3.cell? ⟨w.heap.size + 1 + 1, 0, none⟩ = some (.int .i64 (lc A')) := cell_blk e8 0
      have c3 : w3.cell? ⟨w.heap.size + 1 + 1, 1, none⟩ = some (.int .i64 (lk A')) := cell_blk e8 1
      have c4 : w3.cell? ⟨b9, 0, none⟩ = some (.int .i32 (lr A')) := cell_blk e9 0
      have c5 : w3.cell? ⟨b9, 1, none⟩ = some (.bool (ld A')) := cell_blk e9 1
      have c6 : w3.cell? ⟨b9, 2, none⟩ = some (.int .i64 e.c) := cell_blk e9 2
      have c7 : w3.cell? ⟨b9, 3, none⟩ = some (.int .i64 e.k) := cell_blk e9 3
      obtain ⟨w4, hu4, hc4, hz4, hs4, hg4, m2, he4⟩ := upd_ex keyMark (w := w3.drew) ee (lc A') (lk A') (.agg #[.int .i32 (lr A'), .bool (ld A'), .int .i64 e.c, .int .i64 e.k])
      go_region_held3 (fun w' => w'.cell? ⟨lb, 0, none⟩ = some (.map (some mb)) ∧ w'.cell? ⟨w.heap.size + 1 + 1, 0, none⟩ = some (.int .i64 (lc A')) ∧ w'.cell? ⟨w.heap.size + 1 + 1, 1, none⟩ = some (.int .i64 (lk A')) ∧ w'.cell? ⟨b9, 0, none⟩ = some (.int .i32 (lr A')) ∧ w'.cell? ⟨b9, 1, none⟩ = some (.bool (ld A')) ∧ w'.cell? ⟨b9, 2, none⟩ = some (.int .i64 e.c) ∧ w'.cell? ⟨b9, 3, none⟩ = some (.int .i64 e.k)) (go_keep) (fail)
      go_wp2_with fail
      go_end0
      refine ⟨rfl, _, ⟨(hg4.block lb (lt_of_heap el) (by simpa using hmbl)).trans el, he4⟩, ?_, ?_⟩
      · rw [HX.out.2.1, HB.out]
        exact lineIs_lay hL' e hf' m1 m2 HD.out
      · exact ⟨hg4.os.trans gw.os, hg4.tape.trans gw.tape, hg4.output.trans gw.output, Nat.le_trans gw.size hg4.size, fun k hk hne => (hg4.block k (Nat.lt_of_lt_of_le hk gw.size) hne).trans (gw.block k hk hne)⟩

end Go.Proofs.YtachmkhbbbmioaaGreat

namespace Go.Proofs.YtachmkhbbbmioaaGreat
open Go.RowKit Go.Shelf
attribute [local go_sem ↓] Go.wp_at_zero Go.wp_at_succ
attribute [local simp] entsAt_drew entsAt_setCell entsAt_alloc

/-- An element that is deleted. -/
def gone (x : El) : El := { x with d := true }

theorem look_mid {E : List Ent} {A R : List El} {x : El} (h : LineIs E (A ++ x :: R)) : look x.c x.k E = some (ev x.r x.d (hdc R) (hdk R)) := (chain_at h.chain).1

theorem hd_gone (A R : List El) (x : El) : hdc (A ++ gone x :: R) = hdc (A ++ x :: R) ∧ hdk (A ++ gone x :: R) = hdk (A ++ x :: R) := by
  cases A <;> exact ⟨rfl, rfl⟩

theorem lineIs_gone {E : List Ent} {A R : List El} {x : El} (h : LineIs E (A ++ x :: R)) (n : Nat) : LineIs (put x.c x.k (ev x.r true (hdc R) (hdk R)) n E) (A ++ gone x :: R) := by
  have hx := chain_at h.chain
  have hap := apart_mem h.apart
  refine ⟨?_, chain_mk ?_, ?_, ?_⟩
  · rw [look_put, if_neg (fun q => hx.2 ⟨q.1.symm, q.2.symm⟩), h.begin]
    rw [(hd_gone A R x).1, (hd_gone A R x).2]
  · intro A2 y R2 hy
    rw [look_put]
    rcases List.append_eq_append_iff.1 hy with ⟨T, h1, h2⟩ | ⟨T, h1, h2⟩
    · cases T with
      | nil =>
        simp only [List.nil_append, List.cons.injEq] at h2
        obtain ⟨rfl, rfl⟩ := h2
        rw [if_pos ⟨rfl, rfl⟩]
        exact ⟨rfl, hx.2⟩
      | cons z T =>
        simp only [List.cons_append, List.cons.injEq] at h2
        obtain ⟨rfl, rfl⟩ := h2
        have hc : chain E ((A ++ x :: T) ++ y :: R2) := by have := h.chain; simpa using this
        rw [if_neg (fun q => hap.2 y (by simp) ⟨q.1.symm, q.2.symm⟩)]
        exact chain_at hc
    · cases T with
      | nil =>
        simp only [List.nil_append, List.cons.injEq] at h2
        obtain ⟨rfl, rfl⟩ := h2
        rw [if_pos ⟨rfl, rfl⟩]
        exact ⟨rfl, hx.2⟩
      | cons z T =>
        simp only [List.cons_append, List.cons.injEq] at h2
        obtain ⟨rfl, rfl⟩ := h2
        subst h1
        have hc : chain E (A2 ++ y :: (T ++ x :: R)) := by have := h.chain; simpa using this
        rw [if_neg (hap.1 y (by simp)), (hd_gone T R x).1, (hd_gone T R x).2]
        exact chain_at hc
  · have hp := h.apart
    rw [List.pairwise_append] at hp ⊢
    refine ⟨hp.1, List.pairwise_cons.2 (List.pairwise_cons.1 hp.2.1), fun y hy z hz => ?_⟩
    rcases List.mem_cons.1 hz with rfl | hz
    · exact hap.1 y hy
    · exact hp.2.2 y hy z (by simp [hz])
  · intro c k hck
    rw [look_put] at hck
    by_cases q : c = x.c ∧ k = x.k
    · exact .inr ⟨gone x, by simp, q.1.symm, q.2.symm⟩
    · rw [if_neg q] at hck
      rcases h.only c k hck with q | ⟨y, hy, q'⟩
      · exact .inl q
      · rcases List.mem_append.1 hy with h1 | h1
        · exact .inr ⟨y, by simp [h1], q'⟩
        · rcases List.mem_cons.1 h1 with rfl | h1
          · exact (q ⟨q'.1.symm, q'.2.symm⟩).elim
          · exact .inr ⟨y, by simp [h1], q'⟩

theorem lookOk (E : List Ent) (w : World) (b : Nat) (h : entsAt w b E) (c k : Int) : (Instr.lookup 204 (.map (some b)) (.agg #[.int .i64 c, .int .i64 k]) true).run Tryz.prog w = .ok (.tuple #[(look c k E).getD (ev 0 false 0 0), .bool (look c k E).isSome]) w :=
  run_lookup_ok keyMark (fun w => Tryz.zeroValue203 w) h c k

set_option maxRecDepth 100000 in
set_option maxHeartbeats 2000000 in
theorem strike_any (lb mb : Nat) (E : List Ent) (A R : List El) (x : El) (w : World) (hl : Ln lb mb E w) (hL : LineIs E (A ++ x :: R)) :
    Calls Tryz.prog 159 #[.pointer (some ⟨lb, 0, none⟩), .agg #[.int .i64 x.c, .int .i64 x.k]] w fun r w' => r = .returned (.tuple #[]) ∧
      ∃ E', Ln lb mb E' w' ∧ LineIs E' (A ++ gone x :: R) ∧ w.grownBy w' (some mb) := by
  have hlk := fun w' (h : entsAt w' mb E) => lookOk E w' mb h x.c x.k
  rw [look_mid hL] at hlk
  simp only [Option.getD_some, ev, Option.isSome_some] at hlk
  have c1 : w.cell? ⟨lb, 0, none⟩ = some (.map (some mb)) := cell_blk hl.line 0
  have c2 := hl.ents
  go_enter Tryz.func159, Tryz.ntmps159
  go_wp2_with fail
  have g1 : w.grownBy (w.alloc (.cells #[.int .i64 x.c, .int .i64 x.k] 152)) none := grown_alloc (grown_refl _) _
  have k3 : (w.alloc (.cells #[.int .i64 x.c, .int .i64 x.k] 152)).heap[w.heap.size]? = some (.cells #[.int .i64 x.c, .int .i64 x.k] 152) := by rw [heap_alloc_at]; simp
  generalize (w.alloc (.cells #[.int .i64 x.c, .int .i64 x.k] 152)) = w1 at g1 k3 ⊢
  have hl1 := hl.grown g1
  have c3 : w1.cell? ⟨lb, 0, none⟩ = some (.map (some mb)) := cell_blk hl1.line 0
  have c4 := hl1.ents
  have c5 : w1.cell? ⟨w.heap.size, 0, none⟩ = some (.int .i64 x.c) := cell_blk k3 0
  have c6 : w1.cell? ⟨w.heap.size, 1, none⟩ = some (.int .i64 x.k) := cell_blk k3 1
  have n1 := World.new_ne w1 _ c3
  have n2 := World.new_ne w1 _ c5
  go_cut [4, 5] (fun s4 s5 wx => s5 = .bool true ∧ ∃ b9 : Nat, s4 = .pointer (some ⟨b9, 0, none⟩) ∧ wx.heap[b9]? = some (.cells #[.int .i32 x.r, .bool x.d, .int .i64 (hdc R), .int .i64 (hdk R)] 203) ∧ w1.grownBy wx none ∧ w1.heap.size ≤ b9)
  case first =>
    go_region_held3 (fun w' => w'.cell? ⟨lb, 0, none⟩ = some (.map (some mb)) ∧ entsAt w' mb E ∧ w'.cell? ⟨w.heap.size, 0, none⟩ = some (.int .i64 x.c) ∧ w'.cell? ⟨w.heap.size, 1, none⟩ = some (.int .i64 x.k)) (go_keep) (fail)
    all_goals (go_wp2_with fail; go_meet)
    all_goals exact ⟨rfl, _, rfl, by simp only [heap_drew, heap_alloc_at]; simp, by repeat (first | exact grown_refl _ | refine grown_drew ?_ | refine grown_alloc ?_ _), Nat.le_refl _⟩
  case rest =>
  obtain ⟨rfl, b9, rfl, hb9, g2, hge⟩ := hcut
  have g3 := grown_trans g1 g2
  have hl2 := hl.grown g3
  have k4 := blk_grown k3 g2
  have hge9 : w.heap.size ≤ b9 := Nat.le_trans g1.size hge
  have hne9 : b9 ≠ w.heap.size := by intro q; rw [q, k4] at hb9; cases hb9
  have hmb9 : b9 ≠ mb := by intro q; rw [q] at hb9; obtain ⟨clk, hq⟩ := hl2.ents; rw [hq] at hb9; cases hb9
  have hmbl : lb ≠ mb := by intro q; have := hl2.line; rw [q] at this; obtain ⟨clk, hq⟩ := hl2.ents; rw [hq] at this; cases this
  have hlb9 : lb ≠ b9 := by intro q; have := lt_of_heap hl.line; omega
  clear c1 c2 c3 c4 c5 c6 n1 n2 hlk hge g2 k3 hl1 g1
  have d1 : wc.cell? ⟨b9, 1, none⟩ = some (.bool x.d) := cell_blk hb9 1
  have f1 : wc.frozen? ⟨b9, 1, none⟩ = false := frozen_blk hb9 1
  go_wp2_with fail
  have e9 : (wc.setCell ⟨b9, 1, none⟩ (.bool true)).heap[b9]? = some (.cells #[.int .i32 x.r, .bool true, .int .i64 (hdc R), .int .i64 (hdk R)] 203) := by
    rw [set_blk hb9]; rfl
  have e3 : (wc.setCell ⟨b9, 1, none⟩ (.bool true)).heap[w.heap.size]? = some (.cells #[.int .i64 x.c, .int .i64 x.k] 152) := by
    rw [Below.heap_setCell _ _ _ _ (fun q => hne9 q.symm)]; exact k4
  have el : (wc.setCell ⟨b9, 1, none⟩ (.bool true)).heap[lb]? = some (.cells #[.map (some mb)] 206) := by
    rw [Below.heap_setCell _ _ _ _ hlb9]; exact hl2.line
  have ee := entsAt_setCell (a := ⟨b9, 1, none⟩) (v := .bool true) hl2.ents
  have gw : w.grownBy (wc.setCell ⟨b9, 1, none⟩ (.bool true)) (some mb) :=
    ⟨g3.os, g3.tape, g3.output, by simpa [World.setCell] using g3.size, fun k hk _ => by rw [Below.heap_setCell _ _ _ _ (by simp; omega)]; exact g3.block k hk (by simp)⟩
  generalize (wc.setCell ⟨b9, 1, none⟩ (.bool true)) = w3 at e9 e3 el ee gw ⊢
  clear d1 f1 hb9 k4 hl2 g3
  have c1 : w3.cell? ⟨lb, 0, none⟩ = some (.map (some mb)) := cell_blk el 0
  have c2 : w3.cell? ⟨w.heap.size, 0, none⟩ = some (.int .i64 x.c) := cell_blk e3 0
  have c3 : w3.cell? ⟨w.heap.size, 1, none⟩ = some (.int .i64 x.k) := cell_blk e3 1
  have c4 : w3.cell? ⟨b9, 0, none⟩ = some (.int .i32 x.r) := cell_blk e9 0
  have c5 : w3.cell? ⟨b9, 1, none⟩ = some (.bool true) := cell_blk e9 1
  have c6 : w3.cell? ⟨b9, 2, none⟩ = some (.int .i64 (hdc R)) := cell_blk e9 2
  have c7 : w3.cell? ⟨b9, 3, none⟩ = some (.int .i64 (hdk R)) := cell_blk e9 3
  obtain ⟨w4, hu4, hc4, hz4, hs4, hg4, m2, he4⟩ := upd_ex keyMark (w := w3.drew) ee x.c x.k (.agg #[.int .i32 x.r, .bool true, .int .i64 (hdc R), .int .i64 (hdk R)])
  go_region_held3 (fun w' => w'.cell? ⟨lb, 0, none⟩ = some (.map (some mb)) ∧ w'.cell? ⟨w.heap.size, 0, none⟩ = some (.int .i64 x.c) ∧ w'.cell? ⟨w.heap.size, 1, none⟩ = some (.int .i64 x.k) ∧ w'.cell? ⟨b9, 0, none⟩ = some (.int .i32 x.r) ∧ w'.cell? ⟨b9, 1, none⟩ = some (.bool true) ∧ w'.cell? ⟨b9, 2, none⟩ = some (.int .i64 (hdc R)) ∧ w'.cell? ⟨b9, 3, none⟩ = some (.int .i64 (hdk R))) (go_keep) (fail)
  go_wp2_with fail
  go_end0
  exact ⟨rfl, _, ⟨(hg4.block lb (lt_of_heap el) (by simpa using hmbl)).trans el, he4⟩, lineIs_gone hL m2,
    ⟨hg4.os.trans gw.os, hg4.tape.trans gw.tape, hg4.output.trans gw.output, Nat.le_trans gw.size hg4.size, fun k hk hne => (hg4.block k (Nat.lt_of_lt_of_le hk gw.size) hne).trans (gw.block k hk hne)⟩⟩

end Go.Proofs.YtachmkhbbbmioaaGreat

namespace Go.Proofs.YtachmkhbbbmioaaGreat
open Go.RowKit Go.Shelf
attribute [local go_sem ↓] Go.wp_at_zero Go.wp_at_succ

set_option maxRecDepth 100000 in
set_option maxHeartbeats 1000000 in
theorem of_any (b off : Nat) (s : Int) (h1 : 1 ≤ s) (h2 : s ≤ 8) (v : Int) (w : World) (hc : w.cell? ⟨b, off + (s.toNat - 1), none⟩ = some (.int .i64 v)) :
    Calls Tryz.prog 130 #[.pointer (some ⟨b, off, none⟩), .int .i64 s] w fun r w' => r = .returned (.int .i64 v) ∧ w' = w := by
  go_enter Tryz.func130, Tryz.ntmps130
  go_wp2
  go_ret
  exact ⟨rfl, rfl⟩

set_option maxRecDepth 100000 in
set_option maxHeartbeats 1000000 in
theorem count_any (b off : Nat) (s : Int) (h1 : 1 ≤ s) (h2 : s ≤ 8) (v : Int) (hv : 0 ≤ v) (hv2 : v ≤ 1000000) (w : World) (hc : w.cell? ⟨b, off + (s.toNat - 1), none⟩ = some (.int .i64 v)) (hf : w.frozen? ⟨b, off + (s.toNat - 1), none⟩ = false) :
    Calls Tryz.prog 157 #[.pointer (some ⟨b, off, none⟩), .int .i64 s] w fun r w' => r = .returned (.tuple #[]) ∧ w' = (w.setCell ⟨b, off + (s.toNat - 1), none⟩ (.int .i64 (v + 1))).drew := by
  go_enter Tryz.func157, Tryz.ntmps157
  go_wp2
  go_region
  all_goals go_wp2_with fail
  all_goals go_end0
  all_goals exact ⟨rfl, rfl⟩

end Go.Proofs.YtachmkhbbbmioaaGreat

import Derived.Test.YtachmkhbbbmioaaGreatLineP
import Derived.RangeFuncRecord
import Derived.Below
namespace Go.Proofs.YtachmkhbbbmioaaGreat
open Go.RowKit

/-- A store into a map, with what is left of the world. -/
theorem upd_ex {P : Program} {T K E : TypeId} (H : KeyT P T K E) {w : World} {b : Nat} {l : List Ent} (h : entsAt w b l) (c k : Int) (v : Value) :
    ∃ w2, (Instr.mapUpdate T (.map (some b)) (.agg #[.int .i64 c, .int .i64 k]) v).run P w = .ok () w2 ∧ (∀ a, w2.cell? a = w.cell? a) ∧ (∀ a, w2.frozen? a = w.frozen? a) ∧ w2.heap.size = w.heap.size ∧ w.grownBy w2 (some b) ∧ ∃ n, entsAt w2 b (put c k v n l) := by
  obtain ⟨o, n, h1, h2⟩ := run_update H h c k v
  have hlt := h.lt
  have h3 : (w.putObj b o).heap[b]? = some o := World.putObj_heap_same hlt
  have h4 : ∃ es clk, o = .map es clk := by
    obtain ⟨clk, h2⟩ := h2
    rw [h3] at h2
    exact ⟨_, _, Option.some.inj h2⟩
  obtain ⟨es, clk, rfl⟩ := h4
  obtain ⟨clk0, h0⟩ := h
  refine ⟨_, h1, fun a => ?_, fun a => ?_, by simp, ⟨rfl, rfl, rfl, by simp, fun j _ hj => World.putObj_heap_other (fun e => hj (by rw [e]))⟩, n, h2⟩
  · by_cases e : a.block = b
    · simp [World.cell?, e, h3, h0]
    · exact World.cell?_of_block (World.putObj_heap_other e)
  · by_cases e : a.block = b
    · simp [World.frozen?, e, h3, h0]
    · exact World.frozen?_of_block (World.putObj_heap_other e)

theorem chain_at {E : List Ent} {x : El} {R : List El} : ∀ {A : List El}, chain E (A ++ x :: R) → look x.c x.k E = some (ev x.r x.d (hdc R) (hdk R)) ∧ ¬ (x.c = 0 ∧ x.k = 0)
  | [], h => ⟨h.1, h.2.1⟩
  | _ :: A, h => chain_at (A := A) h.2.2

theorem chain_mk {E : List Ent} : ∀ {L : List El}, (∀ A x R, L = A ++ x :: R → look x.c x.k E = some (ev x.r x.d (hdc R) (hdk R)) ∧ ¬ (x.c = 0 ∧ x.k = 0)) → chain E L
  | [], _ => trivial
  | x :: L, h => ⟨(h [] x L rfl).1, (h [] x L rfl).2, chain_mk (fun A y R e => h (x :: A) y R (by rw [e]; rfl))⟩

/-- The last element's mark, rune and state; the beginning's where there is none. -/
def lc : List El → Int | [] => 0 | [x] => x.c | _ :: y :: A => lc (y :: A)
def lk : List El → Int | [] => 0 | [x] => x.k | _ :: y :: A => lk (y :: A)
def lr : List El → Int | [] => 0 | [x] => x.r | _ :: y :: A => lr (y :: A)
def ld : List El → Bool | [] => false | [x] => x.d | _ :: y :: A => ld (y :: A)

theorem last_snoc (A : List El) (x : El) : lc (A ++ [x]) = x.c ∧ lk (A ++ [x]) = x.k ∧ lr (A ++ [x]) = x.r ∧ ld (A ++ [x]) = x.d := by
  induction A with
  | nil => exact ⟨rfl, rfl, rfl, rfl⟩
  | cons y A ih => cases A with
    | nil => exact ⟨rfl, rfl, rfl, rfl⟩
    | cons z A => exact ih

theorem snoc_cases (A : List El) : A = [] ∨ ∃ B x, A = B ++ [x] := by
  rcases List.eq_nil_or_concat A with h | ⟨B, x, h⟩
  · exact .inl h
  · exact .inr ⟨B, x, by simpa using h⟩

theorem look_last {E : List Ent} {A R : List El} (h : LineIs E (A ++ R)) : look (lc A) (lk A) E = some (ev (lr A) (ld A) (hdc R) (hdk R)) := by
  rcases snoc_cases A with rfl | ⟨B, x, rfl⟩
  · exact h.begin
  · obtain ⟨e1, e2, e3, e4⟩ := last_snoc B x
    rw [e1, e2, e3, e4]
    have := h.chain
    rw [List.append_assoc] at this
    exact (chain_at this).1

/-- Is the mark of y above that of e? -/
abbrev abv (y e : El) : Prop := e.c < y.c ∨ (y.c = e.c ∧ e.k < y.k)

/-- The new element behind those that follow with marks above its own. -/
def behind (e : El) : List El → List El
  | [] => [e]
  | y :: R => if abv y e then y :: behind e R else e :: y :: R

def fresh (e : El) (L : List El) : Prop := ¬ (e.c = 0 ∧ e.k = 0) ∧ ∀ x ∈ L, ¬ (x.c = e.c ∧ x.k = e.k)

theorem hd_append_cons (T R : List El) (e : El) (h : T ≠ []) : hdc (T ++ e :: R) = hdc (T ++ R) ∧ hdk (T ++ e :: R) = hdk (T ++ R) := by
  cases T with
  | nil => exact (h rfl).elim
  | cons y T => exact ⟨rfl, rfl⟩

theorem apart_mem {A R : List El} {x : El} (h : (A ++ x :: R).Pairwise (fun x y => ¬ (x.c = y.c ∧ x.k = y.k))) : (∀ y ∈ A, ¬ (y.c = x.c ∧ y.k = x.k)) ∧ (∀ y ∈ R, ¬ (x.c = y.c ∧ x.k = y.k)) := by
  rw [List.pairwise_append] at h
  exact ⟨fun y hy => h.2.2 y hy x (by simp), fun y hy => (List.pairwise_cons.1 h.2.1).1 y hy⟩

/-- TO LAY AN ELEMENT: its entry, and the one ahead of it leads to it. -/
theorem lineIs_lay {E : List Ent} {A R : List El} (h : LineIs E (A ++ R)) (e : El) (hf : fresh e (A ++ R)) (n1 n2 : Nat) (hd : e.d = false) :
    LineIs (put (lc A) (lk A) (ev (lr A) (ld A) e.c e.k) n2 (put e.c e.k (ev e.r false (hdc R) (hdk R)) n1 E)) (A ++ e :: R) := by
  have hne : ¬ (lc A = e.c ∧ lk A = e.k) := by
    rcases snoc_cases A with rfl | ⟨B, x, rfl⟩
    · intro q; exact hf.1 ⟨q.1.symm, q.2.symm⟩
    · obtain ⟨e1, e2, -, -⟩ := last_snoc B x
      rw [e1, e2]
      exact hf.2 x (by simp)
  refine ⟨?_, chain_mk ?_, ?_, ?_⟩
  · -- the beginning
    rw [look_put, look_put]
    rcases snoc_cases A with rfl | ⟨B, x, rfl⟩
    · rw [if_pos ⟨rfl, rfl⟩]; rfl
    · obtain ⟨e1, e2, -, -⟩ := last_snoc B x
      have hx := h.chain
      rw [List.append_assoc] at hx
      have hx0 := (chain_at hx).2
      rw [e1, e2, if_neg (fun q => hx0 ⟨q.1.symm, q.2.symm⟩), if_neg (fun q => hf.1 ⟨q.1.symm, q.2.symm⟩)]
      have := h.begin
      rw [this]
      have h2 := hd_append_cons (B ++ [x]) R e (by simp)
      rw [h2.1, h2.2]
  · intro A2 x R2 hx
    rw [look_put, look_put]
    rcases List.append_eq_append_iff.1 hx with ⟨T, h1, h2⟩ | ⟨T, h1, h2⟩
    · -- x is e, or lies behind it
      cases T with
      | nil =>
        simp only [List.nil_append, List.cons.injEq] at h2
        obtain ⟨rfl, rfl⟩ := h2
        rw [if_neg (fun q => hne ⟨q.1.symm, q.2.symm⟩), if_pos ⟨rfl, rfl⟩, hd]
        exact ⟨rfl, hf.1⟩
      | cons z T =>
        simp only [List.cons_append, List.cons.injEq] at h2
        obtain ⟨rfl, rfl⟩ := h2
        have hc : chain E (A ++ (T ++ x :: R2)) := h.chain
        rw [← List.append_assoc] at hc
        have hx1 := chain_at hc
        have hxe := hf.2 x (by simp)
        have hp := h.apart
        have hlast : ¬ (x.c = lc A ∧ x.k = lk A) := by
          rcases snoc_cases A with rfl | ⟨B, y, rfl⟩
          · intro q; exact hx1.2 q
          · obtain ⟨e1, e2, -, -⟩ := last_snoc B y
            rw [e1, e2]
            have := (apart_mem (A := B ++ [y] ++ T) (x := x) (R := R2) (by simpa using hp)).1 y (by simp)
            intro q; exact this ⟨q.1.symm, q.2.symm⟩
        rw [if_neg hlast, if_neg hxe]
        exact hx1
    · -- x lies ahead of e
      cases T with
      | nil =>
        simp only [List.nil_append, List.cons.injEq] at h2
        obtain ⟨rfl, rfl⟩ := h2
        rw [if_neg (fun q => hne ⟨q.1.symm, q.2.symm⟩), if_pos ⟨rfl, rfl⟩, hd]
        exact ⟨rfl, hf.1⟩
      | cons z T =>
        simp only [List.cons_append, List.cons.injEq] at h2
        obtain ⟨rfl, rfl⟩ := h2
        subst h1
        have hc : chain E (A2 ++ x :: (T ++ R)) := by have := h.chain; simpa using this
        have hx1 := chain_at hc
        have hxe := hf.2 x (by simp)
        rcases snoc_cases T with rfl | ⟨B, y, rfl⟩
        · obtain ⟨e1, e2, e3, e4⟩ := last_snoc A2 x
          rw [e1, e2, e3, e4, if_pos ⟨rfl, rfl⟩]
          exact ⟨rfl, hx1.2⟩
        · have ey := last_snoc (A2 ++ x :: B) y
          rw [show A2 ++ x :: (B ++ [y]) = A2 ++ x :: B ++ [y] from by simp, ey.1, ey.2.1]
          have hp := (apart_mem (A := A2) (x := x) (R := B ++ [y] ++ R) (by have := h.apart; simpa using this)).2 y (by simp)
          rw [if_neg hp, if_neg hxe, hx1.1]
          have h2 := hd_append_cons (B ++ [y]) R e (by simp)
          rw [h2.1, h2.2]
          exact ⟨rfl, hx1.2⟩
  · have hp := h.apart
    rw [List.pairwise_append] at hp ⊢
    refine ⟨hp.1, List.pairwise_cons.2 ⟨fun y hy q => hf.2 y (by simp [hy]) ⟨q.1.symm, q.2.symm⟩, hp.2.1⟩, fun y hy z hz => ?_⟩
    rcases List.mem_cons.1 hz with rfl | hz
    · exact hf.2 y (by simp [hy])
    · exact hp.2.2 y hy z hz
  · intro c k hck
    rw [look_put, look_put] at hck
    by_cases q1 : c = e.c ∧ k = e.k
    · exact .inr ⟨e, by simp, q1.1.symm, q1.2.symm⟩
    · by_cases q2 : c = lc A ∧ k = lk A
      · rcases snoc_cases A with rfl | ⟨B, x, rfl⟩
        · exact .inl q2
        · obtain ⟨e1, e2, -, -⟩ := last_snoc B x
          exact .inr ⟨x, by simp, by rw [q2.1, e1], by rw [q2.2, e2]⟩
      · rw [if_neg q2, if_neg q1] at hck
        rcases h.only c k hck with q | ⟨x, hx, q⟩
        · exact .inl q
        · exact .inr ⟨x, by rcases List.mem_append.1 hx with h1 | h1 <;> simp [h1], q⟩

end Go.Proofs.YtachmkhbbbmioaaGreat

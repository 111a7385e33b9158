import Derived.Test.YtachmkhbbbmioaaGreatMap
namespace Go.Proofs.YtachmkhbbbmioaaGreat

/-- A Unicode scalar value. -/
def Sc (r : Int) : Prop := 0 ≤ r ∧ r ≤ 1114111 ∧ (r < 55296 ∨ 57343 < r)

/-- An element of the line: its mark, its rune, whether it is deleted. -/
structure El where
  c : Int
  k : Int
  r : Int
  d : Bool
  ok : Sc r

abbrev ev (r : Int) (d : Bool) (nc nk : Int) : Value := .agg #[.int .i32 r, .bool d, .int .i64 nc, .int .i64 nk]

def hdc : List El → Int | [] => 0 | x :: _ => x.c
def hdk : List El → Int | [] => 0 | x :: _ => x.k

/-- The entries of the elements lead on, one to the next, back to the beginning. -/
def chain (E : List Ent) : List El → Prop
  | [] => True
  | x :: L => look x.c x.k E = some (ev x.r x.d (hdc L) (hdk L)) ∧ ¬ (x.c = 0 ∧ x.k = 0) ∧ chain E L

structure LineIs (E : List Ent) (L : List El) : Prop where
  begin : look 0 0 E = some (ev 0 false (hdc L) (hdk L))
  chain : chain E L
  apart : L.Pairwise (fun x y => ¬ (x.c = y.c ∧ x.k = y.k))
  only : ∀ c k, look c k E ≠ none → (c = 0 ∧ k = 0) ∨ ∃ x ∈ L, x.c = c ∧ x.k = k

/-- The elements that are there. -/
def vis (L : List El) : List El := L.filter (fun x => !x.d)

theorem vis_cons_there {x : El} {L : List El} (h : x.d = false) : vis (x :: L) = x :: vis L := by simp [vis, h]
theorem vis_cons_gone {x : El} {L : List El} (h : x.d = true) : vis (x :: L) = vis L := by simp [vis, h]
theorem vis_append (L M : List El) : vis (L ++ M) = vis L ++ vis M := by simp [vis]

end Go.Proofs.YtachmkhbbbmioaaGreat

import Derived.Test.YtachmkhbbbmioaaGreatProg
import Derived.Test.YtachmkhbbbmioaaGreatMap
import Derived.WalkKit
import Derived.WalkLawsBesides
import Derived.WalkSpells
import Derived.KernelRfl
namespace Go.Proofs.YtachmkhbbbmioaaGreat
open Go.RowKit

set_option maxHeartbeats 400000 in
theorem above_any (a b c d : Int) (w : World) :
    Calls Tryz.prog 167 #[.agg #[.int .i64 a, .int .i64 b], .agg #[.int .i64 c, .int .i64 d]] w fun e w' => e = .returned (.bool (decide (c < a ∨ (a = c ∧ d < b)))) ∧ w' = (w.alloc (.cells #[.int .i64 a, .int .i64 b] 152)).alloc (.cells #[.int .i64 c, .int .i64 d] 152) := by
  go_enter Tryz.func167, Tryz.ntmps167
  by_cases h : a = c
  · have h1 : (a != c) = false := by simp [h]
    have H : Hid (a = c) := h
    clear h
    go_wp2
    go_ret
    refine ⟨?_, rfl⟩
    show Ending.returned (.bool (decide (d < b))) = _
    have e : (d < b) = (c < a ∨ (a = c ∧ d < b)) := by rw [eq_iff_iff]; have := H.out; omega
    simp only [← e]
  · have h1 : (a != c) = true := by simp [h]
    have H : Hid (¬ a = c) := h
    clear h
    go_wp2
    go_ret
    refine ⟨?_, rfl⟩
    show Ending.returned (.bool (decide (c < a))) = _
    have e : (c < a) = (c < a ∨ (a = c ∧ d < b)) := by rw [eq_iff_iff]; have := H.out; omega
    simp only [← e]

theorem beginning_any (w : World) :
    Calls Tryz.prog 107 #[] w fun e w' => e = .returned (.agg #[.int .i64 0, .int .i64 0]) ∧ w' = w.alloc (.cells #[.int .i64 0, .int .i64 0] 152) := by
  go_enter Tryz.func107, Tryz.ntmps107
  go_wp2
  exact bodyPost_ret (v := .agg #[.int .i64 0, .int .i64 0]) (by simp [results, Tryz.results107, go_sem]) rfl ⟨rfl, rfl⟩

theorem eqMark (w : World) (a b c d : Int) : (Op.equal 152 (pr a b) (pr c d)).run Tryz.prog w = .ok (a == c && b == d) w := by
  show (Op.equalIn (9999 + 1) 152 (pr a b) (pr c d)).run Tryz.prog w = _
  by_cases e : a = c
  · by_cases f : b = d <;> simp [go_sem, e, f]
  · simp [go_sem, e]

theorem ckMark (w : World) (em : Bool) (a b : Int) : (Instr.checkKey em 10000 152 (pr a b)).run Tryz.prog w = .ok () w := by kernel_rfl

theorem keyMark : KeyT Tryz.prog 204 152 203 := {
  map := Tryz.underlying204
  wide := by rw [Tryz.underlying152]
  eq := eqMark
  ck := ckMark }

end Go.Proofs.YtachmkhbbbmioaaGreat

namespace Go.Proofs.YtachmkhbbbmioaaGreat

/-- A Unicode scalar value. -/
def Sc (r : Int) : Prop := 0 ≤ r ∧ r ≤ 1114111 ∧ (r < 55296 ∨ 57343 < r)

/-- An element of the line: its mark, its rune, whether it is deleted. -/
structure El where
  c : Int
  k : Int
  r : Int
  d : Bool
  ok : Sc r

abbrev ev (r : Int) (d : Bool) (nc nk : Int) : Value := .agg #[.int .i32 r, .bool d, .int .i64 nc, .int .i64 nk]

def hdc : List El → Int | [] => 0 | x :: _ => x.c
def hdk : List El → Int | [] => 0 | x :: _ => x.k

/-- The entries of the elements lead on, one to the next, back to the beginning. -/
def chain (E : List Ent) : List El → Prop
  | [] => True
  | x :: L => look x.c x.k E = some (ev x.r x.d (hdc L) (hdk L)) ∧ ¬ (x.c = 0 ∧ x.k = 0) ∧ chain E L

structure LineIs (E : List Ent) (L : List El) : Prop where
  begin : look 0 0 E = some (ev 0 false (hdc L) (hdk L))
  chain : chain E L
  apart : L.Pairwise (fun x y => ¬ (x.c = y.c ∧ x.k = y.k))
  only : ∀ c k, look c k E ≠ none → (c = 0 ∧ k = 0) ∨ ∃ x ∈ L, x.c = c ∧ x.k = k

/-- The elements that are there. -/
def vis (L : List El) : List El := L.filter (fun x => !x.d)

theorem vis_cons_there {x : El} {L : List El} (h : x.d = false) : vis (x :: L) = x :: vis L := by simp [vis, h]
theorem vis_cons_gone {x : El} {L : List El} (h : x.d = true) : vis (x :: L) = vis L := by simp [vis, h]
theorem vis_append (L M : List El) : vis (L ++ M) = vis L ++ vis M := by simp [vis]

end Go.Proofs.YtachmkhbbbmioaaGreat

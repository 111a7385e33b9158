import Derived.Test.YtachmkhbbbmioaaGreatMap
import Derived.Laws.Concat
namespace Go.Proofs.YtachmkhbbbmioaaGreat
open Go.RowKit

theorem hide {p : Prop} (h : p) : Hid p := h

/-- The bytes of a number. -/
def vb (n : Nat) : List UInt8 := if n < 128 then [UInt8.ofNat n] else UInt8.ofNat (n % 128 + 128) :: vb (n / 128)
termination_by n
decreasing_by omega

theorem vb_small {n : Nat} (h : n < 128) : vb n = [UInt8.ofNat n] := by rw [vb, if_pos h]
theorem vb_great {n : Nat} (h : 128 ≤ n) : vb n = UInt8.ofNat (n % 128 + 128) :: vb (n / 128) := by rw [vb, if_neg (by omega)]

theorem vb_len : ∀ (k n : Nat), n < 128 ^ (k + 1) → (vb n).length ≤ k + 1
  | 0, n, h => by rw [vb_small (by omega)]; simp
  | k + 1, n, h => by
    by_cases q : n < 128
    · rw [vb_small q]; simp
    · rw [vb_great (by omega), List.length_cons]
      have := vb_len k (n / 128) (by rw [Nat.div_lt_iff_lt_mul (by omega)]; rw [Nat.pow_succ] at h; omega)
      omega

theorem vb_pos (n : Nat) : 0 < (vb n).length := by
  by_cases q : n < 128
  · rw [vb_small q]; simp
  · rw [vb_great (by omega)]; simp

/-- The bytes of numbers, one behind the other. -/
def vbs : List Int → List UInt8
  | [] => []
  | x :: l => vb x.toNat ++ vbs l

theorem vbs_append (a b : List Int) : vbs (a ++ b) = vbs a ++ vbs b := by
  induction a with
  | nil => rfl
  | cons x a ih => simp [vbs, ih]

theorem vbs_take (l : List Int) (i : Nat) (x : Int) (h : l[i]? = some x) : vbs (l.take (i + 1)) = vbs (l.take i) ++ vb x.toNat := by
  rw [List.take_add_one, h, vbs_append]; simp [vbs]

/-- One step of the sum. -/
def fstep (h b : Int) : Int := IntKind.u32.wrap (bits .xor .u32 h b * 16777619)
def fsum (l : List UInt8) : Int := l.foldl (fun h b => fstep h b.toNat) 2166136261

theorem fstep_nn (h b : Int) : 0 ≤ fstep h b ∧ fstep h b < 4294967296 := by
  unfold fstep
  rw [IntKind.wrap_u32]
  omega

theorem fsum_nn (l : List UInt8) : 0 ≤ fsum l ∧ fsum l < 4294967296 := by
  have : ∀ (l : List UInt8) (h : Int), 0 ≤ h ∧ h < 4294967296 → 0 ≤ l.foldl (fun h b => fstep h b.toNat) h ∧ l.foldl (fun h b => fstep h b.toNat) h < 4294967296 := by
    intro l
    induction l with
    | nil => intro h hh; exact hh
    | cons b l ih => intro h _; exact ih _ (fstep_nn _ _)
  exact this l _ (by omega)

theorem fsum_step (l : List UInt8) (b : UInt8) : fsum (l ++ [b]) = fstep (fsum l) b.toNat := by simp [fsum, List.foldl_append]

theorem fsum_take (l : List UInt8) (i : Nat) (b : UInt8) (h : l[i]? = some b) : fsum (l.take (i + 1)) = fstep (fsum (l.take i)) b.toNat := by
  rw [List.take_add_one, h]; exact fsum_step _ _

/-- A number's lowest byte. -/
def lob (x : Int) : UInt8 := UInt8.ofNat (x % 256).toNat

theorem lob_nat (x : Int) : ((lob x).toNat : Int) = x % 256 := by
  have h1 : 0 ≤ x % 256 := by omega
  have h2 : x % 256 < 256 := by omega
  have : (lob x).toNat = (x % 256).toNat := by simp [lob]; omega
  omega

/-- The four bytes of the sum. -/
def sum4 (l : List UInt8) : List UInt8 := [lob (fsum l / 16777216), lob (fsum l / 65536), lob (fsum l / 256), lob (fsum l)]
def sealB (l : List UInt8) : List UInt8 := l ++ sum4 l

theorem seal_len (l : List UInt8) : (sealB l).length = l.length + 4 := by simp [sealB, sum4]

/-- Bytes as rows of cells. -/
def byRow (l : List UInt8) : List (List Value) := l.map fun b => [.int .u8 (b.toNat : Int)]
theorem byRow_len (l : List UInt8) : (byRow l).length = l.length := by simp [byRow]
theorem byRow_append (a b : List UInt8) : byRow (a ++ b) = byRow a ++ byRow b := by simp [byRow]
theorem byRow_flat (l : List UInt8) : (byRow l).flatten = l.map fun b => Value.int .u8 (b.toNat : Int) := by
  unfold byRow
  induction l with
  | nil => rfl
  | cons b l ih => rw [List.map_cons, List.flatten_cons, ih]; rfl
theorem byRow_one (l : List UInt8) : ∀ y ∈ byRow l, y.length = 1 := by
  intro y hy
  obtain ⟨x, -, rfl⟩ := List.mem_map.1 hy
  rfl
theorem byRow_cell (l : List UInt8) : ∀ y ∈ byRow l, ∀ c ∈ y, c.oneCell' = true := by
  intro y hy c hc
  obtain ⟨x, -, rfl⟩ := List.mem_map.1 hy
  simp only [List.mem_cons, List.not_mem_nil, or_false] at hc
  rw [hc]; rfl
theorem byRow_at (l : List UInt8) {i : Nat} {b : UInt8} (h : l[i]? = some b) : (byRow l)[i]? = some [.int .u8 (b.toNat : Int)] := by simp [byRow, h]

/-- A string of bytes. -/
abbrev str (l : List UInt8) : Value := .string ⟨l.toArray⟩

/-- An operation. -/
structure OpR where
  o : Int
  num : Int
  c : Int
  kind : Int
  tc : Int
  tk : Int
  r : Int
  q : Nat → Int

/-- The cells of an Operation. -/
def opArr (o num c kind tc tk r : Int) (q : Nat → Int) : Array Value :=
  #[.int .i64 o, .int .i64 num, .int .i64 c, .int .i64 kind, .int .i64 tc, .int .i64 tk, .int .i32 r, .int .i64 (q 0), .int .i64 (q 1), .int .i64 (q 2), .int .i64 (q 3), .int .i64 (q 4), .int .i64 (q 5), .int .i64 (q 6), .int .i64 (q 7)]
def OpR.arr (x : OpR) : Array Value := opArr x.o x.num x.c x.kind x.tc x.tk x.r x.q

def clk (n : Nat) (q : Nat → Int) : List Int := (List.range n).map q
def OpR.nums (x : OpR) : List Int := [x.o, x.num, x.c, x.kind, x.tc, x.tk] ++ (if x.kind = 0 then [x.r] else [])
def OpR.bytes (n : Nat) (x : OpR) : List UInt8 := vbs x.nums ++ vbs (clk n x.q)

/-- An operation within its bounds. -/
structure OpOk (n : Nat) (x : OpR) : Prop where
  o : 1 ≤ x.o ∧ x.o ≤ n
  num : 1 ≤ x.num ∧ x.num ≤ 100
  c : 1 ≤ x.c ∧ x.c ≤ 1099511627776
  kind : x.kind = 0 ∨ x.kind = 1
  tc : 0 ≤ x.tc ∧ x.tc ≤ 1099511627776
  tk : 0 ≤ x.tk ∧ x.tk ≤ 8
  r : 0 ≤ x.r ∧ x.r ≤ 1114111
  q : ∀ i, i < 8 → 0 ≤ x.q i ∧ x.q i ≤ 100

def digest (n : Nat) (s : Int) (q : Nat → Int) : List UInt8 := sealB (68 :: vbs (s :: clk n q))
def batch (n : Nat) (l : List OpR) : List UInt8 := sealB (66 :: (vb l.length ++ l.flatMap (OpR.bytes n)))

/-- As many in each as there is room for; what has been gathered is at the head. -/
def packs (n : Nat) (some : List OpR) : List OpR → List (List OpR)
  | [] => if some.length = 0 then [] else [some]
  | x :: l => if 114 < (some.flatMap (OpR.bytes n)).length + (x.bytes n).length then some :: packs n [x] l else packs n (some ++ [x]) l

def answers (n : Nat) (l : List OpR) : List (List UInt8) := (packs n [] l).map (batch n)

theorem clk_len (n : Nat) (q : Nat → Int) : (clk n q).length = n := by simp [clk]
theorem clk_at {n i : Nat} (q : Nat → Int) (h : i < n) : (clk n q)[i]? = some (q i) := by simp [clk, h]

end Go.Proofs.YtachmkhbbbmioaaGreat

namespace Go.Proofs.YtachmkhbbbmioaaGreat

/-- A Unicode scalar value. -/
def Sc (r : Int) : Prop := 0 ≤ r ∧ r ≤ 1114111 ∧ (r < 55296 ∨ 57343 < r)

/-- An element of the line: its mark, its rune, whether it is deleted. -/
structure El where
  c : Int
  k : Int
  r : Int
  d : Bool
  ok : Sc r

abbrev ev (r : Int) (d : Bool) (nc nk : Int) : Value := .agg #[.int .i32 r, .bool d, .int .i64 nc, .int .i64 nk]

def hdc : List El → Int | [] => 0 | x :: _ => x.c
def hdk : List El → Int | [] => 0 | x :: _ => x.k

/-- The entries of the elements lead on, one to the next, back to the beginning. -/
def chain (E : List Ent) : List El → Prop
  | [] => True
  | x :: L => look x.c x.k E = some (ev x.r x.d (hdc L) (hdk L)) ∧ ¬ (x.c = 0 ∧ x.k = 0) ∧ chain E L

structure LineIs (E : List Ent) (L : List El) : Prop where
  begin : look 0 0 E = some (ev 0 false (hdc L) (hdk L))
  chain : chain E L
  apart : L.Pairwise (fun x y => ¬ (x.c = y.c ∧ x.k = y.k))
  only : ∀ c k, look c k E ≠ none → (c = 0 ∧ k = 0) ∨ ∃ x ∈ L, x.c = c ∧ x.k = k

/-- The elements that are there. -/
def vis (L : List El) : List El := L.filter (fun x => !x.d)

theorem vis_cons_there {x : El} {L : List El} (h : x.d = false) : vis (x :: L) = x :: vis L := by simp [vis, h]
theorem vis_cons_gone {x : El} {L : List El} (h : x.d = true) : vis (x :: L) = vis L := by simp [vis, h]
theorem vis_append (L M : List El) : vis (L ++ M) = vis L ++ vis M := by simp [vis]

end Go.Proofs.YtachmkhbbbmioaaGreat

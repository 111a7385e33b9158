import Derived.Test.YtachmkhbbbmioaaGreatOpAX
import Derived.Test.YtachmkhbbbmioaaGreatBytX
import Derived.Test.YtachmkhbbbmioaaGreatLineQX
import Derived.Laws.IdiomStrings
namespace Go.Proofs.YtachmkhbbbmioaaGreat
open Go.RowKit Go.Shelf

theorem conv1 {w : World} {a : Nat} {x : Int} (h : w.cell? ⟨a, 0, none⟩ = some (.int .u8 x)) (hx : 0 ≤ x) (h2 : x < 256) : (convert 69 9 (.slice (some ⟨a, 0, none⟩) 1 1)).run Tryz.prog w = .ok (str [UInt8.ofNat x.toNat]) w := by
  refine run_convert_bytes_back w 69 9 5 ⟨a, 0, none⟩ 1 [UInt8.ofNat x.toNat] Tryz.underlying69 Tryz.underlying5 Tryz.underlying9 ?_
  intro j hj
  obtain rfl : j = 0 := by simpa using hj
  have e : ((UInt8.ofNat x.toNat).toNat : Int) = x := by simp; omega
  show w.cell? ((⟨a, 0, none⟩ : Addr).add 0) = some (.int .u8 ((UInt8.ofNat x.toNat).toNat : Int))
  rw [e]
  simpa [Addr.add] using h

theorem varint_zero (n : Int) (hn0 : 0 ≤ n) (hn : n < 128) (w : World) :
    Calls Tryz.prog 73 #[.int .i64 n] w fun e w' => e = .returned (str (vb n.toNat)) ∧ w.grownBy w' none := by
  have hc := @conv1 (w.alloc (.cells #[.int .u8 n] 5)) w.heap.size n (by simp) hn0 (by omega)
  have hw : IntKind.u8.wrap n = n := by rw [IntKind.wrap_u8]; omega
  go_enter Tryz.func73, Tryz.ntmps73
  go_wp2_with fail
  go_ret
  refine ⟨?_, grown_alloc (grown_refl _) _⟩
  rw [vb_small (by omega)]
  rfl

theorem sadd (a b : List UInt8) (h : a.length + b.length ≤ 100000000) (w : World) : (Op.stringOp .add ⟨a.toArray⟩ ⟨b.toArray⟩).run Tryz.prog w = .ok (str (a ++ b)) w := by
  have := run_string_add_sum (P := Tryz.prog) (w := w) ⟨a.toArray⟩ ⟨b.toArray⟩ (by simp [ByteArray.size]; omega)
  rwa [ByteArray.mk_append_mk] at this

theorem grown_cells {w w' : World} (h : w.grownBy w' none) : ∀ (b o : Nat), b < w.heap.size → w'.cell? ⟨b, o, none⟩ = w.cell? ⟨b, o, none⟩ := fun b o hb => World.cell?_of_block (h.block b hb (by simp))

set_option maxRecDepth 100000 in
set_option maxHeartbeats 2000000 in
theorem varint_step (n : Int) (hn0 : 128 ≤ n) (hn : n < 9223372036854775808) (l : List UInt8) (hl : vb (n / 128).toNat = l) (hll : l.length ≤ 100) (w : World)
    (ih : ∀ w, Calls Tryz.prog 73 #[.int .i64 (n / 128)] w fun e w' => e = .returned (str l) ∧ w.grownBy w' none) :
    Calls Tryz.prog 73 #[.int .i64 n] w fun e w' => e = .returned (str (vb n.toNat)) ∧ w.grownBy w' none := by
  have hc := fun (w : World) (a : Nat) (h : w.cell? ⟨a, 0, none⟩ = some (.int .u8 (n % 128 + 128))) => @conv1 w a (n % 128 + 128) h (by omega) (by omega)
  have e1 : n.tmod 128 = n % 128 := by rw [Int.tmod_eq_emod_of_nonneg (by omega)]
  have e2 : n.tdiv 128 = n / 128 := by rw [Int.tdiv_eq_ediv_of_nonneg (by omega)]
  have hw : IntKind.u8.wrap (n % 128 + 128) = n % 128 + 128 := by rw [IntKind.wrap_u8]; omega
  have hw2 : IntKind.i64.wrap (n % 128 + 128) = n % 128 + 128 := by rw [IntKind.wrap_i64]; omega
  have hw3 : IntKind.i64.wrap (n / 128) = n / 128 := by rw [IntKind.wrap_i64]; omega
  have ha := fun w => sadd [UInt8.ofNat (n % 128 + 128).toNat] l (by simp; omega) w
  have hlt : ¬ n < 128 := by omega
  have hfin : str ([UInt8.ofNat (n % 128 + 128).toNat] ++ l) = str (vb n.toNat) := by
    have q1 : (n % 128 + 128).toNat = n.toNat % 128 + 128 := by omega
    have q2 : n.toNat / 128 = (n / 128).toNat := by omega
    rw [vb_great (by omega), q1, q2, hl]; rfl
  have IH := hide ih
  clear ih
  go_enter Tryz.func73, Tryz.ntmps73
  go_wp2_with fail
  go_region_with (go_at_call 73; refine (IH.out _).mono ?_; rintro e w' ⟨rfl, hg⟩; have hk := grown_cells hg)
  all_goals go_wp2_with fail
  all_goals
    go_ret
    refine ⟨congrArg Ending.returned hfin, ?_⟩
    repeat (first | exact grown_refl _ | refine grown_trans ?_ hg | refine grown_alloc ?_ _ | refine grown_drew ?_)

/-- The document's varint. -/
theorem varintR (n : Int) (hn0 : 0 ≤ n) (hn : n < 9223372036854775808) (w : World) :
    Calls Tryz.prog 73 #[.int .i64 n] w fun e w' => e = .returned (str (vb n.toNat)) ∧ w.grownBy w' none := by
  have key : ∀ (k : Nat) (n : Int), 0 ≤ n → n < 128 ^ (k + 1) → n < 9223372036854775808 → ∀ w, Calls Tryz.prog 73 #[.int .i64 n] w fun e w' => e = .returned (str (vb n.toNat)) ∧ w.grownBy w' none := by
    intro k
    induction k with
    | zero => intro n h0 h1 _ w; exact varint_zero n h0 (by omega) w
    | succ k ih =>
      intro n h0 h1 h2 w
      by_cases q : n < 128
      · exact varint_zero n h0 q w
      · have h3 : n / 128 < 128 ^ (k + 1) := by
          rw [Int.pow_succ] at h1
          exact Int.ediv_lt_of_lt_mul (by omega) h1
        refine varint_step n (by omega) h2 _ rfl ?_ w (fun w => ih (n / 128) (by omega) h3 (by omega) w)
        have h4 : (n / 128).toNat < 128 ^ (8 + 1) := by omega
        have := vb_len 8 _ h4
        omega
  exact key 8 n hn0 (by omega) hn w

theorem vb_len9 (x : Int) (h : x < 9223372036854775808) : (vb x.toNat).length ≤ 9 := vb_len 8 _ (by omega)

theorem vbs_len (l : List Int) (h : ∀ x ∈ l, x < 9223372036854775808) : (vbs l).length ≤ 9 * l.length := by
  induction l with
  | nil => simp [vbs]
  | cons x l ih =>
    have h1 := vb_len9 x (h x (by simp))
    have h2 := ih (fun y hy => h y (by simp [hy]))
    simp only [vbs, List.length_append, List.length_cons]
    omega

end Go.Proofs.YtachmkhbbbmioaaGreat


namespace Go.Proofs.YtachmkhbbbmioaaGreat
open Go.RowKit Go.Shelf

theorem sindex (l : List UInt8) (i : Nat) (b : UInt8) (h : l[i]? = some b) (w : World) : (Instr.index 9 (str l) (.int .i64 (i : Int))).run Tryz.prog w = .ok (.int .u8 (b.toNat : Int)) w := by
  have hi := (List.getElem?_eq_some_iff.1 h).1
  rw [run_index_string w 9 ⟨l.toArray⟩ .i64 i Tryz.underlying9]
  have h2 : (0 : Int) ≤ (i : Int) ∧ (i : Int) < ((⟨l.toArray⟩ : ByteArray).size : Int) := by simp [ByteArray.size]; exact hi
  rw [dif_pos h2]
  have h3 : (⟨l.toArray⟩ : ByteArray)[(i : Int).toNat]'(by omega) = b := by
    have := (List.getElem?_eq_some_iff.1 h).2
    simpa [ByteArray.getElem_eq_getElem_data] using this
  rw [h3]

theorem conv4 {w : World} {a : Nat} {x y z u : Int} (k0 : w.cell? ⟨a, 0, none⟩ = some (.int .u8 (x % 256))) (k1 : w.cell? ⟨a, 1, none⟩ = some (.int .u8 (y % 256))) (k2 : w.cell? ⟨a, 2, none⟩ = some (.int .u8 (z % 256))) (k3 : w.cell? ⟨a, 3, none⟩ = some (.int .u8 (u % 256))) : (convert 69 9 (.slice (some ⟨a, 0, none⟩) 4 4)).run Tryz.prog w = .ok (str [lob x, lob y, lob z, lob u]) w := by
  refine run_convert_bytes_back w 69 9 5 ⟨a, 0, none⟩ 4 [lob x, lob y, lob z, lob u] Tryz.underlying69 Tryz.underlying5 Tryz.underlying9 ?_
  intro j hj
  match j, hj with
  | 0, _ => show w.cell? ((⟨a, 0, none⟩ : Addr).add 0) = some (.int .u8 ((lob x).toNat : Int)); rw [lob_nat]; simpa [Addr.add] using k0
  | 1, _ => show w.cell? ((⟨a, 0, none⟩ : Addr).add 1) = some (.int .u8 ((lob y).toNat : Int)); rw [lob_nat]; simpa [Addr.add] using k1
  | 2, _ => show w.cell? ((⟨a, 0, none⟩ : Addr).add 2) = some (.int .u8 ((lob z).toNat : Int)); rw [lob_nat]; simpa [Addr.add] using k2
  | 3, _ => show w.cell? ((⟨a, 0, none⟩ : Addr).add 3) = some (.int .u8 ((lob u).toNat : Int)); rw [lob_nat]; simpa [Addr.add] using k3
  | j + 4, hj => simp at hj; omega

set_option maxRecDepth 100000 in
set_option maxHeartbeats 1000000 in
theorem sumR (l : List UInt8) (hl : l.length ≤ 100000000) (w : World) :
    Calls Tryz.prog 76 #[str l] w fun e w' => e = .returned (str (sum4 l)) ∧ w.grownBy w' none := by
  go_enter Tryz.func76, Tryz.ntmps76
  go_wp2_with fail
  go_loopg [3, 4] l.length (fun g s3 s4 wr => ∃ (i : Nat), s4 = .int .i64 i ∧ i ≤ l.length ∧ g = l.length - i ∧ s3 = .int .u32 (fsum (l.take i)) ∧ wr = w)
  case atStart => exact ⟨0, rfl, by omega, rfl, by simp [fsum], rfl⟩
  case round =>
    obtain ⟨i, rfl, hil, hgk, rfl, hw⟩ := hrel
    rw [hw]
    clear hw wr
    by_cases hlt : i < l.length
    · have hli : (i : Int) < (l.length : Int) := by omega
      obtain ⟨b, hb⟩ : ∃ b, l[i]? = some b := ⟨l[i], by simp [hlt]⟩
      have hx := fun w => sindex l i b hb w
      have hst := fsum_take l i b hb
      unfold fstep at hst
      have hnn := fsum_nn (l.take i)
      have hbb : ((b.toNat : Int)) < 256 := by have := b.toNat_lt; omega
      have hwb : IntKind.u32.wrap (b.toNat : Int) = (b.toNat : Int) := by rw [IntKind.wrap_u32]; omega
      go_wp2_with fail
      go_roundg (l.length - (i + 1))
      case measure => omega
      case rel => exact ⟨i + 1, by go_num, by omega, rfl, by rw [hst, IntKind.wrap_u32], rfl⟩
    · obtain rfl : i = l.length := by omega
      rw [List.take_length]
      have hc := @conv4 (w.alloc (.cells #[.int .u8 (fsum l / 16777216 % 256), .int .u8 (fsum l / 65536 % 256), .int .u8 (fsum l / 256 % 256), .int .u8 (fsum l % 256)] 5)) w.heap.size (fsum l / 16777216) (fsum l / 65536) (fsum l / 256) (fsum l) (by simp) (by simp) (by simp) (by simp)
      go_wp2_with fail
      go_ret
      exact ⟨rfl, grown_alloc (grown_refl _) _⟩

end Go.Proofs.YtachmkhbbbmioaaGreat

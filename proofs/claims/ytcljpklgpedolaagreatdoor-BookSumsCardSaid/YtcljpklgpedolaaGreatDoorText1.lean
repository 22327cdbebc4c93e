/- Texts of numbers and fractions: the program's. -/
import Derived.Test.YtcljpklgpedolaaGreatDoorTextN
import Derived.Test.YtcljpklgpedolaaGreatDoorFrow
import Derived.Lib.SmallJoins
namespace Go.Proofs.YtcljpklgpedolaaGreatDoor
open Go.RowKit Go.Sort

/-- What the library's texts of numbers look at: a table, and three variables. -/
def Env (w : World) : Prop :=
  Lib.TabIs Tryz.prog w "internal/strconv.uint64pow10" .u64 Lib.pow10Tab ∧ (∃ m, w.cell? ⟨2, 0, none⟩ = some (.int .i64 m)) ∧ (∃ t p, w.cell? ⟨4, 0, none⟩ = some (.iface t p)) ∧ (∃ t p, w.cell? ⟨5, 0, none⟩ = some (.iface t p))
theorem cell_lt {w : World} {b o : Nat} {v : Value} (h : w.cell? ⟨b, o, none⟩ = some v) : b < w.heap.size := by
  unfold World.cell? at h
  split at h
  · rename_i e
    exact (Array.getElem?_eq_some_iff.1 e).1
  · simp at h
theorem Env.all {w w' : World} (h : Env w) (hb : Below w.heap.size w w') : Env w' := by
  obtain ⟨h1, ⟨m, h2⟩, ⟨t, p, h3⟩, ⟨u, q, h4⟩⟩ := h
  exact ⟨Joins.tab_stays (g := 3) (by kernel_rfl) h1 hb (Nat.le_refl _), ⟨m, (hb.cell (p := ⟨2, 0, none⟩) (cell_lt h2)).trans h2⟩, ⟨t, p, (hb.cell (p := ⟨4, 0, none⟩) (cell_lt h3)).trans h3⟩,
    ⟨u, q, (hb.cell (p := ⟨5, 0, none⟩) (cell_lt h4)).trans h4⟩⟩
theorem below_grow (w : World) (k : Nat) (os : Array Obj) : Below w.heap.size w (grow (w.drewN k) os) :=
  ⟨rfl, rfl, rfl, by show w.heap.size ≤ (w.heap ++ os).size; simp, fun i hi => by show (w.heap ++ os)[i]? = _; rw [Array.getElem?_append_left hi]⟩
theorem itoa_any (n : Int) (w : World) (h : Env w) (h0 : -9223372036854775808 ≤ n) (h1 : n ≤ 9223372036854775807) :
    Calls Tryz.prog 60 #[.int .i64 n] w fun e w' => e = .returned (.string ⟨(Lib.itoa n).toArray⟩) ∧ Below w.heap.size w w' :=
  (Tryz.strconv_Itoa n h0 h1 w h.1).mono fun e w' ⟨he, k, os, hw⟩ => ⟨he, by rw [hw]; exact below_grow _ _ _⟩
theorem bytesWorld_below (w : World) (e : TypeId) (s : ByteArray) : Below w.heap.size w (Lib.bytesWorld w e s) := by
  have h : Below w.heap.size w (w.drew.alloc (Obj.cells (Lib.bytesCells w e s) e)) := (Below.refl _ w).drew.alloc (Nat.le_refl _) _
  refine ⟨h.os, h.tape, h.output, ?_, fun k hk => ?_⟩
  · show w.heap.size ≤ (Array.modify _ _ _).size
    rw [Array.size_modify]; exact h.size
  · show (Array.modify _ _ _)[k]? = _
    rw [Array.getElem?_modify, if_neg (by show ¬ w.heap.size = k; omega)]
    exact h.block k hk
theorem atoi_ok (s : ByteArray) (w : World) (hs : s.size ≤ 100000) {v : Int} (hv : Lib.atoiAll s.data.toList = .ok v) :
    Calls Tryz.prog 138 #[.string s] w fun e w' => e = .returned (.tuple #[.int .i64 v, .nilIface]) ∧ Below w.heap.size w w' :=
  (Tryz.strconv_Atoi_ok s (by omega) v hv w).mono fun e w' ⟨he, hw⟩ => ⟨he, by
    rcases hw with rfl | ⟨t, rfl⟩
    · exact Below.refl _ _
    · exact bytesWorld_below w _ t⟩
/-- What is told of a text that is no number. -/
def NoNum (w : World) (e : Ending) (w' : World) : Prop := ∃ (v : Int) (t : TypeId) (p : Value), e = .returned (.tuple #[.int .i64 v, .iface t p]) ∧ (-9223372036854775808 ≤ v ∧ v ≤ 9223372036854775807) ∧ Below w.heap.size w w'
theorem atoi_bad (s : ByteArray) (w : World) (h : Env w) (hs : s.size ≤ 100000) (hv : ∀ v, Lib.atoiAll s.data.toList ≠ .ok v) :
    Calls Tryz.prog 138 #[.string s] w (NoNum w) := by
  obtain ⟨_, _, ⟨t, p, h3⟩, ⟨u, q, h4⟩⟩ := h
  cases ha : Lib.atoiAll s.data.toList with
  | ok v => exact absurd ha (hv v)
  | «syntax» =>
    exact (Tryz.strconv_Atoi_syntax s (by omega) ha _ w h3 (.inr ⟨t, p, rfl⟩)).mono fun e w' ⟨N, he, _, _, hb⟩ => ⟨_, _, _, he, by omega, hb⟩
  | range =>
    exact (Tryz.strconv_Atoi_range s (by omega) ha _ w h4 (.inr ⟨u, q, rfl⟩)).mono fun e w' ⟨N, he, _, _, hb⟩ => ⟨_, _, _, he, by unfold Lib.atoiSat; split <;> omega, hb⟩
theorem bytes_append (a b : List UInt8) : (⟨a.toArray⟩ : ByteArray) ++ ⟨b.toArray⟩ = ⟨(a ++ b).toArray⟩ := by
  apply ByteArray.ext
  simp

theorem itoa_len {n : Int} (h0 : -9223372036854775808 ≤ n) (h1 : n ≤ 9223372036854775807) : (Lib.itoa n).length ≤ 20 := by
  unfold Lib.itoa
  split
  · have := Tx.dec_len 18 n.natAbs (by have : (10 : Nat) ^ (18 + 1) = 10000000000000000000 := by decide
                                       omega)
    rw [List.length_cons]; omega
  · have := Tx.dec_len 18 n.toNat (by have : (10 : Nat) ^ (18 + 1) = 10000000000000000000 := by decide
                                      omega)
    omega

end Go.Proofs.YtcljpklgpedolaaGreatDoor

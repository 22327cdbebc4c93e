/- A genealogy and the numbers of some of its lots: the program's errors; what is left of a lot, what was lost, what was received. -/
import Derived.Test.YtakccghmlcehnaaVal5
namespace Go.Proofs.Ytakccghmlcehnaa
open Go.RowKit

/-- A list of numbers that can be read. -/
def Ints (w : World) (v : Value) (ns : List Int) : Prop :=
  (∃ a c, v = .slice a 0 c ∧ ns = []) ∨ ∃ b off cap, v = .slice (some ⟨b, off, none⟩) ns.length cap ∧ ns.length ≤ cap ∧ b < w.heap.size ∧ ∀ k, k < ns.length → w.cell? ⟨b, off + k, none⟩ = some (.int .i64 (ns.getD k 0))
theorem Ints.all {w w2 : World} {v : Value} {ns : List Int} (h : Ints w v ns) (hb : Below w.heap.size w w2) : Ints w2 v ns := by
  rcases h with h | ⟨b, off, cap, h1, h2, h3, h4⟩
  · exact .inl h
  · exact .inr ⟨b, off, cap, h1, h2, Nat.lt_of_lt_of_le h3 hb.size, fun k hk => (hb.cell (p := ⟨b, off + k, none⟩) h3).trans (h4 k hk)⟩
theorem Ints.look {w : World} {v : Value} {ns : List Int} (h : Ints w v ns) : ∃ a c, v = .slice a ns.length c ∧ ∀ k, k < ns.length → ∃ b off, a = some ⟨b, off, none⟩ ∧ b < w.heap.size ∧ w.cell? ⟨b, off + k, none⟩ = some (.int .i64 (ns.getD k 0)) := by
  rcases h with ⟨a, c, rfl, rfl⟩ | ⟨b, off, cap, rfl, hc, hb, h4⟩
  · exact ⟨a, c, rfl, fun k hk => absurd hk (Nat.not_lt_zero _)⟩
  · exact ⟨_, _, rfl, fun k hk => ⟨b, off, rfl, hb, h4 k hk⟩⟩
def intsC0 (xs : List Int) : Array Value := (xs.map (Value.int .i64)).toArray
theorem BlockAt.ints {W : World} {B n : Nat} {ns : List Int} {cs : Array Value} {t : TypeId} (h : BlockAt W B cs t) (hc : cs = intsC0 ns) (hn : n = ns.length) : Ints W (.slice (some ⟨B, 0, none⟩) n n) ns := by
  subst hc; subst hn
  refine .inr ⟨B, 0, ns.length, rfl, Nat.le_refl _, h.lt, fun k hk => ?_⟩
  rw [h.cell, Nat.zero_add]; unfold intsC0; simp [hk]

def inR (ls : List Lt.L) (n : Int) : Bool := decide (0 ≤ n) && decide (n < ls.length)
def numE (ls : List Lt.L) (ns : List Int) : Int := if Lt.valE ls = 0 then (if ns.all (inR ls) then 0 else 5) else Lt.valE ls
theorem numE_bad {ls : List Lt.L} {ns : List Int} (h : Lt.valE ls ≠ 0) : numE ls ns = Lt.valE ls := if_neg h
theorem numE_out {ls : List Lt.L} {ns : List Int} (h : Lt.valE ls = 0) {k : Nat} (hk : k < ns.length) (ho : inR ls ns[k] = false) : numE ls ns = 5 := by
  unfold numE
  rw [if_pos h, if_neg]
  intro ha
  have := List.all_eq_true.1 ha _ (List.getElem_mem hk)
  rw [ho] at this; cases this
theorem numE_in {ls : List Lt.L} {ns : List Int} (h : Lt.valE ls = 0) (ho : ∀ k, (hk : k < ns.length) → inR ls ns[k] = true) : numE ls ns = 0 := by
  unfold numE
  rw [if_pos h, if_pos]
  exact List.all_eq_true.2 fun n hn => by obtain ⟨k, hk, rfl⟩ := List.getElem_of_mem hn; exact ho k hk

set_option maxRecDepth 20000 in
set_option maxHeartbeats 1000000 in
theorem numbers_any (v u : Value) (ls : List Lt.L) (ns : List Int) (w : World) (hv : Lots w v ls) (hsh : short ls) (hu : Ints w u ns) (hn : ns.length ≤ 1000) :
    Calls Try.prog 65 #[v, u] w fun e w' => e = .returned (.int .i64 (numE ls ns)) ∧ Below w.heap.size w w' := by
  have V := Lib.hid (validate_any v ls w hv hsh)
  obtain ⟨a, c, rfl⟩ := hv.form
  obtain ⟨na, nc, rfl, hk⟩ := hu.look
  have HK := Lib.hid hk
  have hlen := hsh.1
  generalize hE : numE ls ns = E
  have HE := Lib.hid hE
  clear hv hu hk hE hsh
  go_enter Try.func65, Try.ntmps65
  go_wp2_with fail
  refine V.out.mono ?_
  rintro e w1 ⟨rfl, hb1⟩
  have H0 := Lib.hid hb1
  clear hb1 V
  by_cases hz : Lt.valE ls = 0
  · have HZ := Lib.hid hz
    rw [hz]
    clear hz
    go_wp2
    go_loopw [15] (fun t wr => ∃ k : Nat, k ≤ ns.length ∧ t = .int .i64 k ∧ Hid (Below w.heap.size w wr ∧ ∀ j, (hj : j < ns.length) → j < k → inR ls ns[j] = true)) (fun t _ => ns.length - (intOf t).toNat)
    case atStart => exact ⟨0, Nat.zero_le _, rfl, Lib.hid ⟨H0.out, fun j _ h => absurd h (Nat.not_lt_zero _)⟩⟩
    case round =>
      obtain ⟨k, hk, rfl, hg⟩ := hrel
      clear H0
      by_cases hlt : k < ns.length
      · obtain ⟨b, off, rfl, hb, hc⟩ := HK.out k hlt
        have hc := (hg.out.1.cell (p := ⟨b, off + k, none⟩) hb).trans hc
        rw [show ns.getD k 0 = ns[k] by simp [hlt]] at hc
        have HO := Lib.hid (fun ho => (numE_out (ns := ns) HZ.out hlt ho).symm.trans HE.out)
        generalize hnk : ns[k] = z at *
        have HNK := Lib.hid hnk
        clear hnk
        by_cases h1 : z < 0
        · have HX := Lib.hid (HO.out (by unfold inR; simp; intro h; omega))
          have HG := Lib.hid hg.out.1
          clear HO hg
          go_wp2
          go_ret
          exact ⟨ret_int HX.out, HG.out⟩
        · by_cases h2 : (ls.length : Int) ≤ z
          · have HX := Lib.hid (HO.out (by unfold inR; simp; intro h; omega))
            have HG := Lib.hid hg.out.1
            clear HO hg
            go_wp2
            go_ret
            exact ⟨ret_int HX.out, HG.out⟩
          · have HIN := Lib.hid (show inR ls z = true by unfold inR; simp; omega)
            clear HO
            go_wp2
            go_roundw
            case rel =>
              refine ⟨k + 1, by omega, by go_num, Lib.hid ⟨hg.out.1, fun j hj hjk => ?_⟩⟩
              by_cases e : j = k
              · subst e; rw [HNK.out]; exact HIN.out
              · exact hg.out.2 j hj (by omega)
            case measure => simp [intOf]; omega
      · obtain rfl : k = ns.length := by omega
        have HX := Lib.hid ((numE_in HZ.out (fun j hj => hg.out.2 j hj hj)).symm.trans HE.out)
        have HG := Lib.hid hg.out.1
        clear hg
        go_wp2
        go_ret
        exact ⟨ret_int HX.out, HG.out⟩
  · have HX := Lib.hid ((numE_bad (ns := ns) hz).symm.trans HE.out)
    have hne : (Lt.valE ls != 0) = true := by simpa using hz
    clear hz
    generalize Lt.valE ls = er at *
    go_wp2
    go_ret
    exact ⟨ret_int HX.out, H0.out⟩

/-- One number, or two, handed over as a list. -/
theorem nums_one (v : Value) (ls : List Lt.L) (n : Int) (B : Nat) (w : World) (hv : Lots w v ls) (hsh : short ls) (hB : BlockAt w B #[.int .i64 n] 3) :
    Calls Try.prog 65 #[v, .slice (some ⟨B, 0, none⟩) 1 1] w fun e w' => e = .returned (.int .i64 (numE ls [n])) ∧ Below w.heap.size w w' :=
  numbers_any v _ ls [n] w hv hsh (hB.ints rfl rfl) (by simp)
theorem nums_two (v : Value) (ls : List Lt.L) (n m : Int) (B : Nat) (w : World) (hv : Lots w v ls) (hsh : short ls) (hB : BlockAt w B #[.int .i64 n, .int .i64 m] 3) :
    Calls Try.prog 65 #[v, .slice (some ⟨B, 0, none⟩) 2 2] w fun e w' => e = .returned (.int .i64 (numE ls [n, m])) ∧ Below w.heap.size w w' :=
  numbers_any v _ ls [n, m] w hv hsh (hB.ints rfl rfl) (by simp)
end Go.Proofs.Ytakccghmlcehnaa

/- What the program writes for small amounts of money: what the law's own look at two known answers needs. -/
import Derived.Test.YtcljpklgpedolaaGreatDoorMake
import Derived.Test.YtcljpklgpedolaaGreatDoorShelf
namespace Go.Proofs.YtcljpklgpedolaaGreatDoor
open Go.RowKit

theorem Tryz.strInfo : (Tryz.prog.info? 9).map (fun i => (i.zero, i.size, i.bytes)) = some (some (.string ⟨#[]⟩), 1, 16) := by kernel_rfl

/-- A unit that is not 0 is written behind what is there. -/
theorem unit_small (v : Value) (n : Nat) (xs : List Value) (a : Nat) (u : ByteArray) (w : World) (B : Nat) (hB : B ≤ w.heap.size) (hown : w.ownsRow B 9 1 v n xs) (ha : 1 ≤ a) (ha2 : a < 100) (hn : n ≤ 2)
    (hl : (Lib.decDigits a).length + u.size ≤ 9223372036854775807) (t : ByteArray) (ht : (⟨(Lib.decDigits a).toArray⟩ : ByteArray) ++ u = t) :
    Calls Tryz.prog 101 #[v, .int .i64 a, .string u] w fun e w' => ∃ v', e = .returned v' ∧ w'.ownsRow B 9 1 v' (n + 1) (xs ++ [.string t]) ∧ Below B w w' := by
  obtain ⟨i0, hi, hz0, hz1, hz2⟩ := info_parts Tryz.strInfo
  have HT := Lib.hid ht
  clear ht
  have h0 : ((a : Int) == 0) = false := by simp; omega
  go_enter Tryz.func101, Tryz.ntmps101
  go_wp2_with (first
    | (go_at_call 60; refine (Tryz.strconv_Itoa_small a ha2 _).mono ?_; rintro e w1 ⟨rfl, hw1⟩; subst w1)
    | (at_builtin; refine wpList_append_own _ rfl _ _ 44 rfl B 9 i0 (.string ⟨#[]⟩) 1 16 Tryz.underlying44 hi hz0 hz1 hz2 rfl (by decide) _ _ _ rfl (hown.alloc _) ⟨w.heap.size, 0, none⟩ 1 1 [.string t] rfl rfl ?c1 ?c2 ?c3 ?c4 ?c5 ?_))
  case c1 =>
    intro j u hj
    match j, hj with
    | 0, hj => simp at hj; subst hj; rw [HT.out]; simp [Addr.add]
  case c2 => intro u hu; simp at hu; subst hu; rfl
  case c3 => unfold maxLen; omega
  case c4 => omega
  case c5 => simp; omega
  intro v' w1 hown' hg _
  have hb : Below B w w1 := ((Below.refl B w).alloc hB _).grown hg (by simp; omega) (fun k hk => (hown.lt k hk).1)
  go_wp2
  go_ret
  exact ⟨_, rfl, hown', hb⟩

/-- 270 pence. -/
theorem money270 (w : World) :
    Calls Tryz.prog 78 #[.int .i64 270] w fun e w' => e = .returned (.tuple #[.string ⟨#[49, 108, 32, 50, 115, 32, 54, 100]⟩, .int .i64 0]) ∧ Below w.heap.size w w' := by
  have d1 : Lib.decDigits 1 = [49] := by rw [Lib.decDigits_one (by decide)]; rfl
  have d2 : Lib.decDigits 2 = [50] := by rw [Lib.decDigits_one (by decide)]; rfl
  have d6 : Lib.decDigits 6 = [54] := by rw [Lib.decDigits_one (by decide)]; rfl
  have D1 := Lib.hid d1
  have D2 := Lib.hid d2
  have D6 := Lib.hid d6
  clear d1 d2 d6
  go_enter Tryz.func78, Tryz.ntmps78
  go_wp2_with fail
  refine (unit_small _ 0 [] 1 _ w w.heap.size (Nat.le_refl _) (World.ownsRow_nil _ _ _ _) (by decide) (by decide) (by decide) (by rw [D1.out]; decide) ⟨#[49, 108]⟩ (by rw [D1.out]; rfl)).mono ?_
  rintro e w1 ⟨v1, rfl, ho1, hb1⟩
  have hs1 := hb1.size
  go_wp2_with fail
  refine (unit_small _ 1 _ 2 _ w1 w.heap.size hs1 ho1 (by decide) (by decide) (by decide) (by rw [D2.out]; decide) ⟨#[50, 115]⟩ (by rw [D2.out]; rfl)).mono ?_
  rintro e w2 ⟨v2, rfl, ho2, hb2⟩
  have hs2 := hb2.size
  go_wp2_with fail
  refine (unit_small _ 2 _ 6 _ w2 w.heap.size (Nat.le_trans hs1 hs2) ho2 (by decide) (by decide) (by decide) (by rw [D6.out]; decide) ⟨#[54, 100]⟩ (by rw [D6.out]; rfl)).mono ?_
  rintro e w3 ⟨v3, rfl, ho3, hb3⟩
  have hs3 := hb3.size
  have hex : ∃ g cap, v3 = .slice (some ⟨g, 0, none⟩) 3 cap ∧ g < w3.heap.size ∧ 3 ≤ cap ∧ ∀ j x, [(⟨#[49, 108]⟩ : ByteArray), ⟨#[50, 115]⟩, ⟨#[54, 100]⟩][j]? = some x → w3.cell? ⟨g, 0 + j, none⟩ = some (.string x) := by
    rcases ho3.2 with ⟨_, h⟩ | ⟨g, cap, cur, rfl, hbg, hg, hc, _, _, _⟩
    · omega
    · refine ⟨g, cap, rfl, (ho3.lt g rfl).2, hc, fun j x hx => ?_⟩
      have := ho3.cellAt j (by have := (List.getElem?_eq_some_iff.1 hx).1; simp at this; omega)
      rw [Nat.zero_add, this]
      match j, hx with
      | 0, hx => simp at hx; subst hx; rfl
      | 1, hx => simp at hx; subst hx; rfl
      | 2, hx => simp at hx; subst hx; rfl
  obtain ⟨g, cap, hv, hg, hcap, hcells⟩ := hex
  rw [hv]
  go_wp2_with fail
  refine (Tryz.strings_Join g 0 cap [(⟨#[49, 108]⟩ : ByteArray), ⟨#[50, 115]⟩, ⟨#[54, 100]⟩] _ w3 hcells hg (by decide) hcap (by decide)).mono ?_
  rintro e w4 ⟨rfl, hb4⟩
  have hb : Below w.heap.size w w4 := ((hb1.trans hb2).trans hb3).trans (hb4.mono (by omega))
  clear hcells hv ho1 ho2 ho3
  go_wp2
  go_ret2
  exact ⟨rfl, hb⟩

end Go.Proofs.YtcljpklgpedolaaGreatDoor

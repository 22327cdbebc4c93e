/- The new load in one loft, as the reference looks for it. -/
import Derived.Test.YtabfcnfddemblaaLfMb
import Derived.Test.YtabfcnfddemblaaLf47
namespace Go.Proofs.Ytabfcnfddemblaa.Lo
open Go.RowKit

theorem fr_at {c : Int → Bool} : ∀ (k : Nat) (a b : Int), a ≤ b → b - a ≤ k → c b = false → (∀ x, a ≤ x → x < b → c x = true) → Lf.fr c k a = b
  | 0, a, b, h1, h2, _, _ => by
    show a = b
    omega
  | k + 1, a, b, h1, h2, h3, h4 => by
    unfold Lf.fr
    by_cases e : a = b
    · subst e; rw [if_neg (by rw [h3]; decide)]
    · rw [if_pos (h4 a (by omega) (by omega))]
      exact fr_at k (a + 1) b (by omega) (by omega) h3 (fun x h5 h6 => h4 x (by omega) h6)
theorem fr_far {c : Int → Bool} {m : Int} : ∀ (k : Nat) (a : Int), (∀ x, a ≤ x → x ≤ m → c x = true) → m < Lf.fr c k a ∨ Lf.fr c k a = a + k
  | 0, a, _ => .inr (by simp [Lf.fr])
  | k + 1, a, h => by
    by_cases e : a ≤ m
    · unfold Lf.fr
      rw [if_pos (h a (by omega) e)]
      rcases fr_far k (a + 1) (fun x h1 h2 => h x (by omega) h2) with h1 | h1
      · exact .inl h1
      · exact .inr (by omega)
    · have := Lf.fr_le (c := c) (k + 1) a
      exact .inl (by omega)
section
variable {ls : List Lf.F} {gs : List Lf.G} {P : List Lf.L} {i lo : Nat}
theorem new_ckx (hF : ∀ k (hk : k < ls.length), Lf.okF ls[k] = true) (hG : ∀ k (hk : k < gs.length), Lf.okG gs[k] = true) (hi : i < gs.length) (hlo : lo < ls.length) (hd : 0 < Lf.dN ls[lo].rs gs[i].n gs[i].m) (hp : gs[i].p ≤ ls[lo].p) :
    Lf.ckx ls gs (Lf.newL ls gs P i lo) = if gs[i].u < (Lf.newL ls gs P i lo).a + ((Lf.prg ls[lo].rs gs[i].n gs[i].m).length : Int) then 12 else 0 := by
  have hfat : Lf.fat ls (lo : Int) = ls[lo] := by unfold Lf.fat; simp [hlo]
  have hgat : Lf.gat gs (i : Int) = gs[i] := by unfold Lf.gat; simp [hi]
  have hok := Lf.okG_iff.1 (hG i hi)
  have hpr := Lf.prg_ok (p := ls[lo].p) (rs := ls[lo].rs) (n := gs[i].n) (m := gs[i].m) (hF lo hlo) (Lf.isRp_iff.2 hok.2.1) hd
  have hle := Lf.fr_le (c := Lf.mC P lo (Lf.nhs ls gs i lo) [(i : Int)]) 61 gs[i].a
  have e1 : (Lf.newL ls gs P i lo).hs = Lf.prg ls[lo].rs gs[i].n gs[i].m := by show Lf.nhs ls gs i lo = _; unfold Lf.nhs; rw [hfat, hgat]
  have e2 : (Lf.newL ls gs P i lo).a = Lf.fr (Lf.mC P lo (Lf.nhs ls gs i lo) [(i : Int)]) 61 gs[i].a := by show Lf.fr _ 61 (Lf.gat gs i).a = _; rw [hgat]
  have e3 : Lf.togA gs (Lf.newL ls gs P i lo).gs = gs[i] := hgat
  have e4 : (Lf.newL ls gs P i lo).l = (lo : Int) := rfl
  unfold Lf.ckx Lf.ckE Lf.end'
  rw [e3, e4, hfat, e1, if_neg (by omega), if_neg (by rw [e2]; omega), if_pos (Lf.rng_iff.2 ⟨hpr.2.1, hpr.2.2⟩)]
theorem bgI_small (hi : i < gs.length) (hlo : lo < ls.length) (hp : ls[lo].p < gs[i].p) : Lf.bgI ls gs P i lo = none := by
  have hfat : Lf.fat ls (lo : Int) = ls[lo] := by unfold Lf.fat; simp [hlo]
  have hgat : Lf.gat gs (i : Int) = gs[i] := by unfold Lf.gat; simp [hi]
  unfold Lf.bgI
  rw [if_neg]
  rintro ⟨_, h⟩
  have e3 : Lf.togA gs (Lf.newL ls gs P i lo).gs = gs[i] := hgat
  have e4 : (Lf.newL ls gs P i lo).l = (lo : Int) := rfl
  unfold Lf.ckx Lf.ckE at h
  rw [e3, e4, hfat, if_pos hp] at h
  omega
theorem bgI_cold (hi : i < gs.length) (hlo : lo < ls.length) (hd : ¬ 0 < Lf.dN ls[lo].rs gs[i].n gs[i].m) : Lf.bgI ls gs P i lo = none := by
  have hfat : Lf.fat ls (lo : Int) = ls[lo] := by unfold Lf.fat; simp [hlo]
  have hgat : Lf.gat gs (i : Int) = gs[i] := by unfold Lf.gat; simp [hi]
  unfold Lf.bgI
  rw [hfat, hgat, if_neg (fun h => hd h.1)]
theorem bgI_hit (hF : ∀ k (hk : k < ls.length), Lf.okF ls[k] = true) (hG : ∀ k (hk : k < gs.length), Lf.okG gs[k] = true) (hi : i < gs.length) (hlo : lo < ls.length) (hd : 0 < Lf.dN ls[lo].rs gs[i].n gs[i].m) (hp : gs[i].p ≤ ls[lo].p) {a : Int} (ha : gs[i].a ≤ a) (hu : a + ((Lf.prg ls[lo].rs gs[i].n gs[i].m).length : Int) ≤ gs[i].u)
    (h1 : Lf.mC P lo (Lf.prg ls[lo].rs gs[i].n gs[i].m) [(i : Int)] a = false) (h2 : ∀ x, gs[i].a ≤ x → x < a → Lf.mC P lo (Lf.prg ls[lo].rs gs[i].n gs[i].m) [(i : Int)] x = true) : Lf.bgI ls gs P i lo = some ⟨lo, a, Lf.prg ls[lo].rs gs[i].n gs[i].m, [(i : Int)]⟩ := by
  have hfat : Lf.fat ls (lo : Int) = ls[lo] := by unfold Lf.fat; simp [hlo]
  have hgat : Lf.gat gs (i : Int) = gs[i] := by unfold Lf.gat; simp [hi]
  have hok := Lf.okG_iff.1 (hG i hi)
  have hN : Lf.newL ls gs P i lo = ⟨lo, a, Lf.prg ls[lo].rs gs[i].n gs[i].m, [(i : Int)]⟩ := by
    unfold Lf.newL Lf.nhs
    rw [hfat, hgat, fr_at 61 gs[i].a a ha (by omega) h1 h2]
  have hck := new_ckx (P := P) hF hG hi hlo hd hp
  rw [hN] at hck
  dsimp only at hck
  rw [if_neg (by omega)] at hck
  unfold Lf.bgI
  rw [hfat, hgat, hN, if_pos ⟨hd, hck⟩]
theorem bgI_miss (hF : ∀ k (hk : k < ls.length), Lf.okF ls[k] = true) (hG : ∀ k (hk : k < gs.length), Lf.okG gs[k] = true) (hi : i < gs.length) (hlo : lo < ls.length) (hd : 0 < Lf.dN ls[lo].rs gs[i].n gs[i].m) (hp : gs[i].p ≤ ls[lo].p)
    (h2 : ∀ x, gs[i].a ≤ x → x + ((Lf.prg ls[lo].rs gs[i].n gs[i].m).length : Int) ≤ gs[i].u → Lf.mC P lo (Lf.prg ls[lo].rs gs[i].n gs[i].m) [(i : Int)] x = true) : Lf.bgI ls gs P i lo = none := by
  have hfat : Lf.fat ls (lo : Int) = ls[lo] := by unfold Lf.fat; simp [hlo]
  have hgat : Lf.gat gs (i : Int) = gs[i] := by unfold Lf.gat; simp [hi]
  have hok := Lf.okG_iff.1 (hG i hi)
  have hck := new_ckx (P := P) hF hG hi hlo hd hp
  have e2 : (Lf.newL ls gs P i lo).a = Lf.fr (Lf.mC P lo (Lf.prg ls[lo].rs gs[i].n gs[i].m) [(i : Int)]) 61 gs[i].a := by show Lf.fr (Lf.mC P lo (Lf.nhs ls gs i lo) [(i : Int)]) 61 (Lf.gat gs i).a = _; unfold Lf.nhs; rw [hfat, hgat]
  have hfar := fr_far (c := Lf.mC P lo (Lf.prg ls[lo].rs gs[i].n gs[i].m) [(i : Int)]) (m := gs[i].u - ((Lf.prg ls[lo].rs gs[i].n gs[i].m).length : Int)) 61 gs[i].a (fun x h3 h4 => h2 x h3 (by omega))
  rw [e2, if_pos (by rcases hfar with h | h <;> omega)] at hck
  unfold Lf.bgI
  rw [if_neg]
  rintro ⟨_, h⟩
  rw [h] at hck
  omega
end
end Go.Proofs.Ytabfcnfddemblaa.Lo

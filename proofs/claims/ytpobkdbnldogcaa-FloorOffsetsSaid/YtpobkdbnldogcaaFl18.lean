/- Strips of the program; the law's sanity check. -/
import Derived.Test.YtpobkdbnldogcaaFl17
namespace Go.Proofs.Ytpobkdbnldogcaa
open Go.RowKit

def Fl.stR (rs : List Fl.R) (ds : List Fl.D) (n o : Int) : List Fl.S := if Fl.offE rs ds n o = 0 then Fl.stL rs n o else []
theorem OwnS.form {base : Nat} {w : World} {v : Value} {xs : List Fl.S} (h : OwnS base w v xs) : ∃ a c, v = .slice a xs.length c := (OwnG.rows stripC_len h).form
set_option maxRecDepth 20000 in
set_option maxHeartbeats 1000000 in
theorem stripsF_any (rv dv : Value) (rs : List Fl.R) (ds : List Fl.D) (n o : Int) (w : World) (hr : Rects w rv rs) (hd : Doors w dv ds) (h1 : rs.length ≤ 1000) (h2 : ds.length ≤ 1000) :
    Calls Try.prog 23 #[roomV rv dv, .int .i64 n, .int .i64 o] w fun e w' => ∃ a c, e = .returned (.tuple #[.slice a (Fl.stR rs ds n o).length c, .int .i64 (Fl.offE rs ds n o)]) ∧ OwnS w.heap.size w' (.slice a (Fl.stR rs ds n o).length c) (Fl.stR rs ds n o) ∧ Below w.heap.size w w' := by
  have HW := Lib.hid (And.intro (BlockAt.new w #[rv, dv] RoomT) (below_alloc2 (Below.refl w.heap.size w) (.cells #[rv, dv] RoomT)))
  have x0 : World.cell? _ _ = some rv := HW.out.1.cell 0
  have x1 : World.cell? _ _ = some dv := HW.out.1.cell 1
  have CV := Lib.hid (validateOffset_any rv dv rs ds n o _ (hr.all HW.out.2) (hd.all HW.out.2) h1 h2)
  have FC := Lib.hid (fun W (hW : Below w.heap.size w W) ho a b c d => strips_any rv dv rs n o W (hr.all hW) h1 ho a b c d)
  obtain ⟨ra, rc, rfl⟩ := hr.form
  obtain ⟨da, dc, rfl⟩ := hd.form
  clear hr hd
  by_cases hz : Fl.offE rs ds n o = 0
  case neg =>
    have hA : Fl.stR rs ds n o = [] := if_neg hz
    rw [hA]
    clear hA FC
    generalize Fl.offE rs ds n o = E at *
    have hd : (E == 0) = false := beq_eq_false_iff_ne.2 hz
    have hd2 : (E != 0) = true := by rw [bne, hd]; rfl
    clear hz
    go_enter Try.func23, Try.ntmps23
    go_wp2_with fail
    refine (CV.out).mono ?_
    rintro e w1 ⟨rfl, hb1⟩
    have HB := Lib.hid (below_step HW.out.2 hb1)
    clear hb1 CV
    go_wp2
    go_ret2
    exact ⟨none, 0, rfl, OwnG.nil _ _, HB.out⟩
  have HA : Fl.stR rs ds n o = Fl.stL rs n o := if_pos hz
  obtain ⟨z1, z2, z3⟩ := Fl.offE_zero.1 hz
  have HF := Lib.hid (fun W hW => FC.out W hW (Fl.val_ok z1) (by omega) (by omega) (by omega) (by omega))
  rw [HA, hz]
  rw [hz] at CV
  clear HA hz FC z1 z2 z3
  generalize Fl.stL rs n o = L at *
  go_enter Try.func23, Try.ntmps23
  go_wp2_with fail
  refine (CV.out).mono ?_
  rintro e w1 ⟨rfl, hb1⟩
  have HB := Lib.hid (below_step HW.out.2 hb1)
  have bX := HW.out.1.below hb1 HW.out.1.lt
  have y0 : World.cell? _ _ = some (.slice ra rs.length rc) := bX.cell 0
  have y1 : World.cell? _ _ = some (.slice da ds.length dc) := bX.cell 1
  have C := Lib.hid (HF.out _ HB.out)
  clear hb1 CV x0 x1 HW bX
  go_wp2_with fail
  refine (C.out).mono ?_
  rintro e w2 ⟨u, rfl, ho2, hb2⟩
  obtain ⟨ua, uc, rfl⟩ := ho2.form
  have HG := Lib.hid (And.intro (ho2.mono HB.out.size) (below_step HB.out hb2))
  clear hb2 y0 y1 ho2
  go_wp2
  go_ret2
  exact ⟨ua, uc, rfl, HG.out.1, HG.out.2⟩
theorem RowsOf.nil {α : Type} (c : Nat) (cs : α → List Value) (w : World) : RowsOf c cs w (.slice none 0 0) [] := ⟨none, 0, rfl, Nat.le_refl _, fun _k hk => absurd hk (Nat.not_lt_zero _)⟩
/-- A list that has just been laid. -/
theorem RowsOf.laid {α : Type} {c : Nat} {cs : α → List Value} (hc : ∀ x, (cs x).length = c) {w : World} {B n : Nat} {ys : Array Value} {t : TypeId} {xs : List α} (h : BlockAt w B ys t) (hn : n = xs.length) (hy : ys = (xs.flatMap cs).toArray) :
    RowsOf c cs w (.slice (some ⟨B, 0, none⟩) n n) xs := by
  subst hn
  refine ⟨_, _, rfl, Nat.le_refl _, fun k hk => ⟨B, 0, rfl, h.lt, fun j u hj => ?_⟩⟩
  have h2 := h.cell (0 + k * c + j)
  rw [h2, hy, Nat.zero_add]
  have hjc : j < c := by
    have := (List.getElem?_eq_some_iff.1 hj).1
    rwa [hc] at this
  rw [List.getElem?_toArray, flat_at hc xs k hk j hjc]
  exact hj
def Fl.exJ : Fl.J := ⟨[⟨0, 0, 8⟩, ⟨4, 0, 8⟩, ⟨8, 0, 8⟩], [⟨20, 0, 0⟩, ⟨10, 0, 0⟩], 1⟩
theorem Fl.ex_strips : Fl.stR [⟨0, 0, 10, 8⟩] [] 4 0 = [⟨0, 0, 8⟩, ⟨4, 0, 8⟩, ⟨8, 0, 8⟩] := by kernel_rfl
theorem Fl.ex_off : Fl.offE [⟨0, 0, 10, 8⟩] [] 4 0 = 0 := by kernel_rfl
theorem Fl.ex_job : Fl.jobE Fl.exJ = 0 := by kernel_rfl
theorem Fl.ex_few : (Fl.fewR Fl.exJ).b = true := by kernel_rfl
theorem Fl.ex_cost : (Fl.fewR Fl.exJ).c = 2 := by kernel_rfl
end Go.Proofs.Ytpobkdbnldogcaa

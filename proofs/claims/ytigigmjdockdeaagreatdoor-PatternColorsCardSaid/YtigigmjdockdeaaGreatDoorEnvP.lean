/- What a row lists of the library's variables gives what the texts of numbers look at. -/
import Derived.Test.YtigigmjdockdeaaGreatDoorText1
import Derived.Test.YtigigmjdockdeaaGreatDoorRows
import Derived.Stop.LaidErr
import Derived.Shelf.Vars
import Derived.Lib.LaidTab
import Derived.ChangeMaps5
namespace Go.Proofs.YtigigmjdockdeaaGreatDoor
open Go.RowKit Go.ChangeShapes

theorem envStar : "*" ++ "errors.errorString" = "*errors.errorString" := by decide
theorem rowErr (u : TypeId) (h : Tryz.prog.typeName? 3 u = some "*errors.errorString") : u = 186 :=
  typeName_ptr_named (nm := "errors.errorString") (by rw [envStar]; kernel_rfl) (by kernel_rfl) (by decide) u (by rw [envStar]; exact h)
theorem pow_of {W : World} {r : List (String × DataW Unit)} (h : laidMet Tryz.prog (("internal/strconv.uint64pow10", Lib.tabData .u64 Lib.pow10Tab) :: r) W) : Lib.TabIs Tryz.prog W "internal/strconv.uint64pow10" .u64 Lib.pow10Tab :=
  Lib.tabIs_of_head (g := 0) (t := 154) (e := 108) (n := 20) (by kernel_rfl) (by kernel_rfl) (by kernel_rfl) (by kernel_rfl) (by kernel_rfl) (by kernel_rfl) h
theorem err_of {W : World} {n : String} {g : Nat} {text : List UInt8} {r : List (String × DataW Unit)} (hg : Tryz.prog.globalNamed n = some g) (ht : (Tryz.prog.globals[g]?).map (·.type) = some 118)
    (h : laidMet Tryz.prog ((n, .iface "*errors.errorString" (.ptr (.agg [.lit (.string text)]))) :: r) W) : ∃ t p, W.cell? ⟨g, 0, none⟩ = some (.iface t p) := by
  obtain ⟨a, _, hv, _⟩ := laid_sentinel h hg ht Tryz.underlying118 rowErr Tryz.underlying186 Tryz.underlying188 rfl rfl Tryz.underlying9 (by kernel_rfl) (by kernel_rfl)
  exact ⟨_, _, (World.var?_cell hg hv 0).trans rfl⟩
theorem max_of {W : World} (h : W.ShapedOpen Tryz.prog) : ∃ m, W.cell? ⟨1, 0, none⟩ = some (.int .i64 m) :=
  cell_of_shapedOpen_int (t := 3) (zero := #[.int .i64 0]) h (by decide +kernel) (by kernel_rfl) rfl (by kernel_rfl) (by kernel_rfl) Tryz.underlying3
theorem env_pat {W : World} {l : List (String × DataW Unit)} (hL : laidMetH Tryz.prog l W) (hl : l = Rows.patternColorsRow.laid) (hS : W.ShapedOpen Tryz.prog) : Env W := by
  subst hl
  have h : laidMet Tryz.prog Rows.patternColorsRow.laid W := hL
  have h2 := laidMet.tail (laidMet.tail h)
  have h3 := laidMet.tail (laidMet.tail h2)
  have h4 := laidMet.tail h3
  exact ⟨pow_of h2, max_of hS, err_of (g := 6) (by kernel_rfl) (by kernel_rfl) h4, err_of (g := 7) (by kernel_rfl) (by kernel_rfl) h3⟩
end Go.Proofs.YtigigmjdockdeaaGreatDoor

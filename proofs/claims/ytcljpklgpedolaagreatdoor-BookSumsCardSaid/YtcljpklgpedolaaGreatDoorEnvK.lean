/- What a row lists of the library's variables gives what the texts of numbers look at. -/
import Derived.Test.YtcljpklgpedolaaGreatDoorBk2
import Derived.Test.YtcljpklgpedolaaGreatDoorRows
import Derived.Stop.LaidErr
import Derived.Shelf.Vars
import Derived.Lib.LaidTab
import Derived.ChangeMaps5
import Derived.Lib.LaidU8
namespace Go.Proofs.YtcljpklgpedolaaGreatDoor
open Go.RowKit Go.ChangeShapes

theorem envStar : "*" ++ "errors.errorString" = "*errors.errorString" := by decide
theorem rowErr (u : TypeId) (h : Tryz.prog.typeName? 3 u = some "*errors.errorString") : u = 209 :=
  typeName_ptr_named (nm := "errors.errorString") (by rw [envStar]; kernel_rfl) (by kernel_rfl) (by decide) u (by rw [envStar]; exact h)
theorem pow_of {W : World} {r : List (String × DataW Unit)} (h : laidMet Tryz.prog (("internal/strconv.uint64pow10", Lib.tabData .u64 Lib.pow10Tab) :: r) W) : Lib.TabIs Tryz.prog W "internal/strconv.uint64pow10" .u64 Lib.pow10Tab :=
  Lib.tabIs_of_head (g := 3) (t := 179) (e := 129) (n := 20) (by kernel_rfl) (by kernel_rfl) (by kernel_rfl) (by kernel_rfl) (by kernel_rfl) (by kernel_rfl) h
theorem err_of {W : World} {n : String} {g : Nat} {text : List UInt8} {r : List (String × DataW Unit)} (hg : Tryz.prog.globalNamed n = some g) (ht : (Tryz.prog.globals[g]?).map (·.type) = some 92)
    (h : laidMet Tryz.prog ((n, .iface "*errors.errorString" (.ptr (.agg [.lit (.string text)]))) :: r) W) : ∃ t p, W.cell? ⟨g, 0, none⟩ = some (.iface t p) := by
  obtain ⟨a, _, hv, _⟩ := laid_sentinel h hg ht Tryz.underlying92 rowErr Tryz.underlying209 Tryz.underlying211 rfl rfl Tryz.underlying9 (by kernel_rfl) (by kernel_rfl)
  exact ⟨_, _, (World.var?_cell hg hv 0).trans rfl⟩
theorem max_of {W : World} (h : W.ShapedOpen Tryz.prog) : ∃ m, W.cell? ⟨2, 0, none⟩ = some (.int .i64 m) :=
  cell_of_shapedOpen_int (t := 3) (zero := #[.int .i64 0]) h (by decide +kernel) (by kernel_rfl) rfl (by kernel_rfl) (by kernel_rfl) Tryz.underlying3
theorem first_is : Lib.firstData = Go.Pinned.utf8First := by kernel_rfl
theorem accept_is : Lib.acceptData = Rows.laid_unicode_utf8_acceptRanges := by kernel_rfl
theorem u8extra : U8Extra Tryz.prog Tryz.lays197_ren := { n3 := by kernel_rfl, n4 := by kernel_rfl, y3 := by kernel_rfl, y4 := by kernel_rfl, c5 := by kernel_rfl, c119 := by kernel_rfl, c138 := by kernel_rfl }
theorem env_book {W : World} {l : List (String × DataW Unit)} (hL : laidMetH Tryz.prog l W) (hl : l = Rows.bookSumsRow.laid) (hS : W.ShapedOpen Tryz.prog) : EnvB W := by
  subst hl
  have h : laidMet Tryz.prog Rows.bookSumsRow.laid W := hL
  have h2 := laidMet.tail (laidMet.tail h)
  have h3 := laidMet.tail (laidMet.tail h2)
  have h4 := laidMet.tail h3
  refine ⟨⟨pow_of h2, max_of hS, err_of (g := 4) (by kernel_rfl) (by kernel_rfl) h4, err_of (g := 5) (by kernel_rfl) (by kernel_rfl) h3⟩, ?_⟩
  have m3 : ("unicode/utf8.first", Rows.laid_unicode_utf8_first) ∈ Rows.bookSumsRow.laid := by simp [Rows.bookSumsRow]
  have m4 : ("unicode/utf8.acceptRanges", Rows.laid_unicode_utf8_acceptRanges) ∈ Rows.bookSumsRow.laid := by simp [Rows.bookSumsRow]
  have r3 := Lib.laidMet.reads h m3
  have r4 := Lib.laidMet.reads h m4
  rw [show (Rows.laid_unicode_utf8_first : DataW Unit) = Lib.firstData from first_is.symm] at r3
  rw [← accept_is] at r4
  exact utf8Tabs_of_reads (P := Tryz.prog) (ρ := Tryz.lays197_ren) { Tryz.lays197 with } u8extra r3 r4
end Go.Proofs.YtcljpklgpedolaaGreatDoor

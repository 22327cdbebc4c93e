/- Loads with what is known of them: the last day, the errors of one by itself: of the program. -/
import Derived.Test.YtabfcnfddemblaaLf40
namespace Go.Proofs.Ytabfcnfddemblaa.Lo
open Go.RowKit

abbrev LoadT : TypeId := 129
abbrev KvT : TypeId := 137
abbrev DemT : TypeId := 133
abbrev ldV (l a : Int) (u v : Value) : Value := .agg #[.int .i64 l, .int .i64 a, u, v]
abbrev ldA (l a : Int) (u v : Value) : Array Value := #[.int .i64 l, .int .i64 a, u, v]
abbrev kvV (l a : Int) (u v : Value) (r m : Int) (t : Lf.G) : Value := .agg #[.int .i64 l, .int .i64 a, u, v, .int .i64 r, .int .i64 m, .int .i64 t.p, .int .i64 t.n, .int .i64 t.m, .int .i64 t.a, .int .i64 t.u]
abbrev kvA (l a : Int) (u v : Value) (r m : Int) (t : Lf.G) : Array Value := #[.int .i64 l, .int .i64 a, u, v, .int .i64 r, .int .i64 m, .int .i64 t.p, .int .i64 t.n, .int .i64 t.m, .int .i64 t.a, .int .i64 t.u]
abbrev kvZ : Array Value := #[.int .i64 0, .int .i64 0, .slice none 0 0, .slice none 0 0, .int .i64 0, .int .i64 0, .int .i64 0, .int .i64 0, .int .i64 0, .int .i64 0, .int .i64 0]
theorem infoLoadK : (Try.prog.info? 137).map (fun i => (i.zero, i.size, i.bytes)) = some (some (.agg kvZ), 11, 120) := by kernel_rfl
theorem infoLoad : (Try.prog.info? 129).map (fun i => (i.zero, i.size, i.bytes)) = some (some (.agg #[.int .i64 0, .int .i64 0, .slice none 0 0, .slice none 0 0]), 4, 64) := by kernel_rfl
set_option maxRecDepth 100000 in
set_option maxHeartbeats 1000000 in
theorem endK_any (l a : Int) (ua : Option Addr) (n uc : Nat) (v : Value) (r m : Int) (t : Lf.G) (w : World) (ha : 0 ≤ a ∧ a ≤ 1000) (hn : n ≤ 1000) :
    Calls Try.prog 127 #[kvV l a (.slice ua n uc) v r m t] w fun e w' => e = .returned (.int .i64 (a + (n : Int))) ∧ Below w.heap.size w w' := by
  have HX := Lib.hid (And.intro (BlockAt.new w (kvA l a (.slice ua n uc) v r m t) KvT) (below_alloc2 (Below.refl w.heap.size w) (.cells (kvA l a (.slice ua n uc) v r m t) KvT)))
  have x1 : World.cell? _ _ = some (.int .i64 a) := HX.out.1.cell 1
  have x2 : World.cell? _ _ = some (.slice ua n uc) := HX.out.1.cell 2
  have g1 : IntKind.i64.wrap (a + (n : Int)) = a + (n : Int) := IntWalk.i64_in _ ⟨by omega, by omega⟩
  obtain ⟨tp, tn, tm, ta, tu⟩ := t
  go_enter Try.func127, Try.ntmps127
  go_wp2
  go_ret
  exact ⟨ret_int (by first | rfl | exact g1), HX.out.2⟩
set_option maxRecDepth 100000 in
set_option maxHeartbeats 1000000 in
theorem endR_any (l a : Int) (ua : Option Addr) (n uc : Nat) (v : Value) (w : World) (ha : 0 ≤ a ∧ a ≤ 1000) (hn : n ≤ 1000) :
    Calls Try.prog 94 #[ldV l a (.slice ua n uc) v] w fun e w' => e = .returned (.int .i64 (a + (n : Int))) ∧ Below w.heap.size w w' := by
  have HX := Lib.hid (And.intro (BlockAt.new w (ldA l a (.slice ua n uc) v) LoadT) (below_alloc2 (Below.refl w.heap.size w) (.cells (ldA l a (.slice ua n uc) v) LoadT)))
  have x1 : World.cell? _ _ = some (.int .i64 a) := HX.out.1.cell 1
  have x2 : World.cell? _ _ = some (.slice ua n uc) := HX.out.1.cell 2
  have g1 : IntKind.i64.wrap (a + (n : Int)) = a + (n : Int) := IntWalk.i64_in _ ⟨by omega, by omega⟩
  go_enter Try.func94, Try.ntmps94
  go_wp2
  go_ret
  exact ⟨ret_int (by first | rfl | exact g1), HX.out.2⟩
theorem vLE_loft {ls : List Lf.F} {gs : List Lf.G} {x : Lf.L} (h : Lf.rng 0 ((ls.length : Int) - 1) x.l = false) : Lf.vLE ls gs x = 5 := by unfold Lf.vLE; rw [h]; rfl
theorem vLE_bad {ls : List Lf.F} {gs : List Lf.G} {x : Lf.L} (h : Lf.rng 0 ((ls.length : Int) - 1) x.l = true) (h2 : (Lf.rng 0 60 x.a && (Lf.vHt x.hs && (decide (0 < x.gs.length) && Lf.stB x.gs gs.length))) = false) : Lf.vLE ls gs x = 1 := by unfold Lf.vLE; rw [h, h2]; rfl
theorem vLE_ok {ls : List Lf.F} {gs : List Lf.G} {x : Lf.L} (h : Lf.rng 0 ((ls.length : Int) - 1) x.l = true) (h2 : (Lf.rng 0 60 x.a && (Lf.vHt x.hs && (decide (0 < x.gs.length) && Lf.stB x.gs gs.length))) = true) : Lf.vLE ls gs x = 0 := by unfold Lf.vLE; rw [h, h2]; rfl
/-- A demand and a load in boxes. -/
def DLS (w : World) (u v : Value) (l a : Int) (p q : Value) (W : World) : Prop := BlockAt W w.heap.size #[u, v] DemT ∧ BlockAt W (w.heap.size + 1) (ldA l a p q) LoadT ∧ Below w.heap.size w W
theorem DLS.step {w : World} {u v p q : Value} {l a : Int} {W W2 : World} (h : DLS w u v l a p q W) (hb : Below W.heap.size W W2) : DLS w u v l a p q W2 := ⟨h.1.below hb h.1.lt, h.2.1.below hb h.2.1.lt, below_step h.2.2 hb⟩
theorem DLS.drew {w : World} {u v p q : Value} {l a : Int} {W : World} (h : DLS w u v l a p q W) : DLS w u v l a p q W.drew := ⟨h.1.drew, h.2.1.drew, below_drewN h.2.2 1⟩
theorem DLS.al {w : World} {u v p q : Value} {l a : Int} {W : World} (h : DLS w u v l a p q W) (o : Obj) : DLS w u v l a p q (W.alloc o) := ⟨h.1.alloc o, h.2.1.alloc o, below_alloc2 h.2.2 o⟩
theorem DLS.new (w : World) (u v : Value) (l a : Int) (p q : Value) : DLS w u v l a p q ((w.alloc (.cells #[u, v] DemT)).alloc (.cells (ldA l a p q) LoadT)) :=
  ⟨(BlockAt.new w #[u, v] DemT).alloc _, by have := BlockAt.new (w.alloc (.cells #[u, v] DemT)) (ldA l a p q) LoadT; simpa using this, below_alloc2 (below_alloc2 (Below.refl w.heap.size w) _) _⟩
set_option maxRecDepth 100000 in
set_option maxHeartbeats 4000000 in
theorem validK_any (ua va : Option Addr) (n1 n2 uc vc : Nat) (xl xa : Int) (p q : Value) (hs gl : List Int) (w : World) (hp : Ints w p hs) (hq : Ints w q gl) (h1 : n1 ≤ 100) (h2 : n2 ≤ 100) (E : Int)
    (hE5 : Lf.rng 0 ((n1 : Int) - 1) xl = false → E = 5)
    (hE1 : Lf.rng 0 ((n1 : Int) - 1) xl = true → (Lf.rng 0 60 xa && (Lf.vHt hs && (decide (0 < gl.length) && Lf.stB gl n2))) = false → E = 1)
    (hE0 : Lf.rng 0 ((n1 : Int) - 1) xl = true → (Lf.rng 0 60 xa && (Lf.vHt hs && (decide (0 < gl.length) && Lf.stB gl n2))) = true → E = 0) :
    Calls Try.prog 85 #[.agg #[.slice ua n1 uc, .slice va n2 vc], ldV xl xa p q] w fun e w' => e = .returned (.int .i64 E) ∧ Below w.heap.size w w' := by
  have CH := Lib.hid (fun W (hW : Below w.heap.size w W) => vHeats_any p hs W (hp.all hW))
  have CS := Lib.hid (fun W (hW : Below w.heap.size w W) => isSetB_any q gl (n2 : Int) W (hq.all hW) ⟨by omega, by omega⟩)
  have CL := Lib.hid (fun W => isFrom_any 0 ((n1 : Int) - 1) xl W)
  have CF := Lib.hid (fun W => isFrom_any 0 60 xa W)
  have H5 := Lib.hid hE5
  have H1 := Lib.hid hE1
  have H0 := Lib.hid hE0
  obtain ⟨pa, pc, rfl⟩ := hp.form
  obtain ⟨qa, qc, rfl⟩ := hq.form
  have HD := Lib.hid (DLS.new w (.slice ua n1 uc) (.slice va n2 vc) xl xa (.slice pa hs.length pc) (.slice qa gl.length qc))
  clear hp hq hE5 hE1 hE0
  have g1 : IntKind.i64.wrap ((n1 : Int) - 1) = (n1 : Int) - 1 := IntWalk.i64_in _ ⟨by omega, by omega⟩
  have x0 : World.cell? _ _ = some (.slice ua n1 uc) := HD.out.1.cell 0
  have x1 : World.cell? _ _ = some (.slice va n2 vc) := HD.out.1.cell 1
  have x2 : World.cell? _ _ = some (.int .i64 xl) := HD.out.2.1.cell 0
  have x3 : World.cell? _ _ = some (.int .i64 xa) := HD.out.2.1.cell 1
  have x4 : World.cell? _ _ = some (.slice pa hs.length pc) := HD.out.2.1.cell 2
  have x5 : World.cell? _ _ = some (.slice qa gl.length qc) := HD.out.2.1.cell 3
  generalize Lf.rng 0 ((n1 : Int) - 1) xl = b1 at *
  generalize Lf.rng 0 60 xa = b2 at *
  generalize Lf.vHt hs = b3 at *
  generalize Lf.stB gl n2 = b4 at *
  cases b1
  · have HE := Lib.hid (H5.out rfl)
    clear H5 H1 H0 CH CS CF
    go_enter Try.func85, Try.ntmps85
    go_wp2_with fail
    refine (CL.out _).mono ?_
    rintro e w7 ⟨rfl, rfl⟩
    go_wp2
    go_ret
    exact ⟨ret_int HE.out.symm, HD.out.2.2⟩
  have H1 := Lib.hid (H1.out rfl)
  have H0 := Lib.hid (H0.out rfl)
  clear H5
  cases b2
  · have HE := Lib.hid (H1.out rfl)
    clear H1 H0 CH CS
    go_enter Try.func85, Try.ntmps85
    go_wp2_with fail
    refine (CL.out _).mono ?_
    rintro e w7 ⟨rfl, rfl⟩
    go_wp2_with fail
    refine (CF.out _).mono ?_
    rintro e w7 ⟨rfl, rfl⟩
    go_wp2
    go_ret
    exact ⟨ret_int HE.out.symm, HD.out.2.2⟩
  cases b3
  · have HE := Lib.hid (H1.out rfl)
    clear H1 H0 CS
    go_enter Try.func85, Try.ntmps85
    go_wp2_with fail
    refine (CL.out _).mono ?_
    rintro e w7 ⟨rfl, rfl⟩
    go_wp2_with fail
    refine (CF.out _).mono ?_
    rintro e w7 ⟨rfl, rfl⟩
    go_wp2_with fail
    refine (CH.out _ HD.out.2.2).mono ?_
    rintro e w7 ⟨rfl, rfl⟩
    go_wp2
    go_ret
    exact ⟨ret_int HE.out.symm, HD.out.2.2⟩
  by_cases hg : gl.length = 0
  · have d1 : decide ((gl.length : Int) = 0) = true := decide_eq_true (by omega)
    have d2 : decide (gl.length = 0) = true := decide_eq_true (by omega)
    have d4 : ((gl.length : Int) == 0) = true := beq_iff_eq.2 (by omega)
    have d3 : decide (0 < gl.length) = false := decide_eq_false (by omega)
    have HE := Lib.hid (H1.out (by rw [d3]; rfl))
    clear H1 H0 CS d3 hg
    go_enter Try.func85, Try.ntmps85
    go_wp2_with fail
    refine (CL.out _).mono ?_
    rintro e w7 ⟨rfl, rfl⟩
    go_wp2_with fail
    refine (CF.out _).mono ?_
    rintro e w7 ⟨rfl, rfl⟩
    go_wp2_with fail
    refine (CH.out _ HD.out.2.2).mono ?_
    rintro e w7 ⟨rfl, rfl⟩
    go_wp2
    go_ret
    exact ⟨ret_int HE.out.symm, HD.out.2.2⟩
  have d1 : decide ((gl.length : Int) = 0) = false := decide_eq_false (by omega)
  have d2 : decide (gl.length = 0) = false := decide_eq_false (by omega)
  have d4 : ((gl.length : Int) == 0) = false := beq_eq_false_iff_ne.2 (by omega)
  have d3 : decide (0 < gl.length) = true := decide_eq_true (by omega)
  rw [d3] at H1 H0
  clear d3 hg
  have HE : Hid (E = if b4 = true then 0 else 1) := Lib.hid (by cases b4; exact H1.out rfl; exact H0.out rfl)
  clear H1 H0
  go_enter Try.func85, Try.ntmps85
  go_wp2_with fail
  refine (CL.out _).mono ?_
  rintro e w7 ⟨rfl, rfl⟩
  go_wp2_with fail
  refine (CF.out _).mono ?_
  rintro e w7 ⟨rfl, rfl⟩
  go_wp2_with fail
  refine (CH.out _ HD.out.2.2).mono ?_
  rintro e w7 ⟨rfl, rfl⟩
  go_wp2_with fail
  refine (CS.out _ HD.out.2.2).mono ?_
  rintro e w7 ⟨rfl, rfl⟩
  cases b4
  · go_wp2
    go_ret
    exact ⟨ret_int HE.out.symm, HD.out.2.2⟩
  · go_wp2
    go_ret
    exact ⟨ret_int HE.out.symm, HD.out.2.2⟩
end Go.Proofs.Ytabfcnfddemblaa.Lo

/- The order in which goods are planned: of the program. -/
import Derived.Test.YtabfcnfddemblaaLf53
import Derived.Test.YtabfcnfddemblaaSortN
namespace Go.Proofs.Ytabfcnfddemblaa.Lo
open Go.RowKit Go.Sort

/-- An index, kept below n. -/
def kept (n x : Nat) : Nat := min x (n - 1)
theorem kept_lt {n x : Nat} (h : 0 < n) : kept n x < n := by unfold kept; omega
def idx (n : Nat) (x : Nat) : Value := .int .i64 (kept n x : Nat)
def cmpR (r : Nat → Int) (n : Nat) (x y : Nat) : Int := Lib.compareInt (r (kept n y)) (r (kept n x))
theorem ltOf_cmpR (r : Nat → Int) (n : Nat) (x y : Nat) : ltOf (cmpR r n) x y = decide (r (kept n y) < r (kept n x)) := by
  unfold ltOf cmpR Lib.compareInt
  split
  · rename_i h; simp [h]
  · rename_i h
    split <;> simp [h]
theorem sorted_kept {r : Nat → Int} {n : Nat} (hn : 0 < n) {d : Array Nat} (hd : d.toList = List.range n) : (Go.Sort.insertionSort (ltOf (cmpR r n)) d 0 n).toList = Lr.srt r n := by
  rw [Lr.sorted_ok (r := fun x => r (kept n x)) (fun x y => ltOf_cmpR r n x y) hn hd]
  exact Lr.srt_congr fun i hi => by show r (min i (n - 1)) = r i; rw [Nat.min_eq_left (by omega)]
theorem cmp_neg (a b : Int) : Lib.compareInt (-b) (-a) = Lib.compareInt a b := by
  unfold Lib.compareInt
  by_cases h1 : a < b
  · rw [if_pos h1, if_pos (by omega)]
  · rw [if_neg h1, if_neg (by omega)]
    by_cases h2 : b < a
    · simp [show ¬ a = b by omega, show ¬ -b = -a by omega, h2, show -a < -b by omega]
    · simp [show a = b by omega]
/-- The goods by the day on which they are due. -/
def due (gs : List Lf.G) (k : Nat) : Int := -(gs.getD k default).u
def odr (gs : List Lf.G) : List Int := (Lr.srt (due gs) gs.length).map fun (k : Nat) => (k : Int)
theorem odr_mem {gs : List Lf.G} {n : Int} : n ∈ odr gs ↔ 0 ≤ n ∧ n < (gs.length : Int) := by
  unfold odr
  rw [List.mem_map]
  constructor
  · rintro ⟨k, hk, rfl⟩
    have := (Lr.srt_mem (due gs)).1 hk
    omega
  · rintro ⟨h0, h1⟩
    exact ⟨n.toNat, (Lr.srt_mem (due gs)).2 (by omega), by omega⟩
theorem odr_nodup (gs : List Lf.G) : (odr gs).Nodup := by
  unfold odr
  refine List.pairwise_map.2 ((Lr.srt_sorted (due gs) gs.length).imp fun {a b} h => ?_)
  intro e
  have e2 : a = b := by omega
  subst e2
  exact Lr.bef_asym h h
theorem odr_len (gs : List Lf.G) : (odr gs).length = gs.length := by unfold odr; rw [List.length_map, Lr.srt_len]
set_option maxRecDepth 20000 in
theorem cmpDue_any (gs : List Lf.G) (kx ky bv : Nat) (va : Option Addr) (vc : Nat) (w : World) (hx : kx < gs.length) (hy : ky < gs.length)
    (hc : w.cell? ⟨bv, 1, none⟩ = some (.slice va gs.length vc)) (hr : Goods w (.slice va gs.length vc) gs) :
    Calls Try.prog 137 #[.int .i64 kx, .int .i64 ky, .pointer (some ⟨bv, 0, none⟩)] w fun e w' => e = .returned (.int .i64 (Lib.compareInt (due gs ky) (due gs kx))) ∧ ∃ q, w' = w.drewN q := by
  have e1 : due gs kx = -(gs[kx].u) := by unfold due; simp [hx]
  have e2 : due gs ky = -(gs[ky].u) := by unfold due; simp [hy]
  rw [e1, e2, cmp_neg]
  have C := Lib.hid (Try.cmp_Compare_int gs[kx].u gs[ky].u)
  obtain ⟨_, _, hvf, _, hvk⟩ := id hr
  injection hvf with hv1 hv2 hv3
  subst hv1
  subst hv3
  obtain ⟨b, off, rfl, hb, h1⟩ := hvk kx hx
  obtain ⟨b2, off2, e3, hb2, h2⟩ := hvk ky hy
  injection e3 with e3
  injection e3 with e3 e4
  subst e3 e4
  have cx := (gd_at h1).2.2.2.2
  have cy := (gd_at h2).2.2.2.2
  clear hvk hr h1 h2 e1 e2
  generalize gs[kx].u = rx at *
  generalize gs[ky].u = ry at *
  generalize Lib.compareInt rx ry = z at *
  have hS0 : w.drew.cell? ⟨bv, 1, none⟩ = some (.slice (some ⟨b, off, none⟩) gs.length vc) ∧ w.drew.cell? ⟨b, off + kx * 5 + 4, none⟩ = some (.int .i64 rx) ∧ w.drew.cell? ⟨b, off + ky * 5 + 4, none⟩ = some (.int .i64 ry) := ⟨hc, cx, cy⟩
  clear hc cx cy
  go_enter Try.func137, Try.ntmps137
  go_wp2_with fail
  refine wp_region_seq [(0, true), (1, true), (2, true), (3, true), (4, true), (5, true), (6, true), (7, true), (8, true), (9, true), (10, true), (11, true), (12, false), (13, true)] (fun W => W.cell? ⟨bv, 1, none⟩ = some (.slice (some ⟨b, off, none⟩) gs.length vc) ∧ W.cell? ⟨b, off + kx * 5 + 4, none⟩ = some (.int .i64 rx) ∧ W.cell? ⟨b, off + ky * 5 + 4, none⟩ = some (.int .i64 ry))
    (by kernel_rfl) (by kernel_rfl) (by kernel_rfl) (by kernel_rfl) (fun d _ _ _ _ h => by cases d <;> exact h) hS0 (fun hS => ?_)
  clear hS0
  repeat (first | (refine SeqH.take (v := ?_) rfl (by rfl) ?_ ?_; rotate_left; (· intro w hSw; (try dsimp only at hSw); obtain ⟨q0, q1, q2⟩ := hSw; go_simp; (try rw [if_pos (by omega)]); (try with_reducible rfl)); simp only [Act.put, List.setIfInBounds_toArray, List.set_cons_zero, List.set_cons_succ]) | (refine SeqH.skip rfl (by rfl) ?_; simp only [Act.put, List.setIfInBounds_toArray, List.set_cons_zero, List.set_cons_succ]))
  refine SeqH.step rfl (by rfl) (fun K hK => ?_)
  go_simp
  refine (C.out w.drew).mono ?_
  rintro e w2 ⟨rfl, rfl⟩
  refine hK.out _ _ hS (fun _ => ?_)
  clear hK K C
  try simp only [Act.put, List.setIfInBounds_toArray, List.set_cons_zero, List.set_cons_succ]
  repeat (first | (refine SeqH.take (v := ?_) rfl (by rfl) ?_ ?_; rotate_left; (· intro w hSw; (try dsimp only at hSw); obtain ⟨q0, q1, q2⟩ := hSw; go_simp; (try with_reducible rfl)); simp only [Act.put, List.setIfInBounds_toArray, List.set_cons_zero, List.set_cons_succ]) | (refine SeqH.skip rfl (by rfl) ?_; simp only [Act.put, List.setIfInBounds_toArray, List.set_cons_zero, List.set_cons_succ]))
  refine SeqH.done ?_
  go_wp2
  go_ret
  exact ⟨rfl, 1, rfl⟩
/-- A list of the indices in order, in memory, and what the closure reads. -/
structure Sorts (w : World) (gs : List Lf.G) (va : Option Addr) (vc bv bO : Nat) : Prop where
  pos : 0 < gs.length
  small : gs.length ≤ 16
  var : w.cell? ⟨bv, 1, none⟩ = some (.slice va gs.length vc)
  rem : Goods w (.slice va gs.length vc) gs
  nea : ∀ b o i, va = some ⟨b, o, i⟩ → b ≠ bO
  ord : ∀ k, k < gs.length → w.cell? ⟨bO, k, none⟩ = some (.int .i64 k) ∧ w.frozen? ⟨bO, k, none⟩ = false
  nev : bv ≠ bO
  ltv : bv < w.heap.size
theorem sort_reads {w : World} {gs : List Lf.G} {va : Option Addr} {vc bv bO : Nat} (h : Sorts w gs va vc bv bO) : CmpReads Try.prog 137 #[.pointer (some ⟨bv, 0, none⟩)] (idx gs.length) (cmpR (due gs) gs.length) bO 0 gs.length w := by
  intro m os dk _ x y
  have hcell : ∀ b k, b < w.heap.size → b ≠ bO → (sortWorld (idx gs.length) w bO 0 m dk os).cell? ⟨b, k, none⟩ = w.cell? ⟨b, k, none⟩ := by
    intro b k hb hne
    unfold sortWorld
    rw [cell?_grow _ _ _ (by show b < (putRow _ _ _ _ _).heap.size; rw [size_putRow]; exact hb), cell?_putRow_other _ _ _ _ _ _ (Or.inl hne)]
    rfl
  have hsz : w.heap.size ≤ (sortWorld (idx gs.length) w bO 0 m dk os).heap.size := by
    unfold sortWorld
    have h1 : (Go.Sort.putRow (idx gs.length) (Sort.ahead w m) bO 0 dk).heap.size = w.heap.size := by rw [size_putRow]; rfl
    simp only [Go.Sort.grow, Array.size_append, h1]
    omega
  refine cmpDue_any gs (kept gs.length x) (kept gs.length y) bv va vc _ (kept_lt h.pos) (kept_lt h.pos) (by rw [hcell _ _ h.ltv h.nev]; exact h.var) ?_
  obtain ⟨a2, c2, e, hcc, hk⟩ := h.rem
  injection e with e1 e2 e3
  subst e1 e3
  refine ⟨va, vc, rfl, hcc, fun k hkl => ?_⟩
  obtain ⟨b, off, e1, hb, hr⟩ := hk k hkl
  exact ⟨b, off, e1, Nat.lt_of_lt_of_le hb hsz, fun j u hj => by rw [hcell _ _ hb (h.nea b off none e1)]; exact hr j u hj⟩
theorem ins_any {w : World} {gs : List Lf.G} {va : Option Addr} {vc bv bO cap : Nat} (h : Sorts w gs va vc bv bO) :
    Calls Try.prog 168 #[.slice (some ⟨bO, 0, none⟩) gs.length cap, .int .i64 0, .int .i64 gs.length, .func (.func 137) #[] #[.pointer (some ⟨bv, 0, none⟩)]] w fun e w' => e = .returned (.tuple #[]) ∧ ∃ (D : Array Nat) (q : Nat), D.toList = Lr.srt (due gs) gs.length ∧ w' = (putRow (idx gs.length) w bO 0 D).drewN q := by
  have eg : ∀ args w, (callFunc 137 args).run Try.prog w = .ok (.enter 137 args) w := enters_of Try.func137 (by kernel_rfl) rfl
  obtain ⟨d, hd⟩ : ∃ d : Array Nat, d = (List.range gs.length).toArray := ⟨_, rfl⟩
  have hsz : d.size = gs.length := by rw [hd]; simp
  have hH : Holds (idx gs.length) w bO 0 d := by
    intro j hj
    rw [hsz] at hj
    have := h.ord j hj
    have e : d[j]! = j := by rw [hd]; simp [hj]
    rw [Nat.zero_add, e]
    refine ⟨?_, this.2⟩
    rw [this.1]
    show some (Value.int .i64 (j : Int)) = some (.int .i64 ((min j (gs.length - 1) : Nat) : Int))
    rw [Nat.min_eq_left (by omega)]
  have hr := sort_reads h
  have hn := h.small
  have hp := h.pos
  have hcon := Try.insertionSortCmpFunc_one (idx gs.length) (fun _ => rfl) (cmpR (due gs) gs.length) 137 #[.pointer (some ⟨bv, 0, none⟩)] bO 0 cap 0 gs.length d w eg (by rw [hsz]; exact hr) hH (Nat.zero_le _) (by omega) (by omega)
  rw [hsz] at hcon
  refine hcon.mono ?_
  rintro e w' ⟨rfl, q, rfl⟩
  exact ⟨rfl, _, q, sorted_kept hp (by rw [hd]), rfl⟩
set_option maxRecDepth 20000 in
theorem stable_any {w : World} {gs : List Lf.G} {va : Option Addr} {vc bv bO cap : Nat} (h : Sorts w gs va vc bv bO) :
    Calls Try.prog 153 #[.slice (some ⟨bO, 0, none⟩) gs.length cap, .int .i64 gs.length, .func (.func 137) #[] #[.pointer (some ⟨bv, 0, none⟩)]] w fun e w' => e = .returned (.tuple #[]) ∧ ∃ (D : Array Nat) (q : Nat), D.toList = Lr.srt (due gs) gs.length ∧ w' = (putRow (idx gs.length) w bO 0 D).drewN q := by
  have C := Lib.hid (ins_any (cap := cap) h)
  have hn : ¬ (20 : Int) ≤ (gs.length : Int) := by have := h.small; omega
  have hn2 : ¬ (20 : Int) < (gs.length : Int) := by omega
  have hn3 : decide ((20 : Int) ≤ (gs.length : Int)) = false := decide_eq_false hn
  have hn4 : decide (20 ≤ gs.length) = false := decide_eq_false (by omega)
  have hn5 : decide ((20 : Int) < (gs.length : Int)) = false := decide_eq_false hn2
  have hn6 : decide (20 < gs.length) = false := decide_eq_false (by omega)
  clear h
  go_enter Try.func153, Try.ntmps153
  go_wp2
  go_loop [7, 8] (fun s t => s = .int .i64 0 ∧ t = .int .i64 20) (fun _ _ => 0)
  case atStart => exact ⟨rfl, rfl⟩
  case round =>
    obtain ⟨rfl, rfl⟩ := hrel
    go_wp2_with fail
    refine C.out.mono ?_
    rintro e w1 ⟨rfl, hw1⟩
    have HW := Lib.hid hw1
    clear hw1 C
    go_wp2
    go_loop [6, 7, 8] (fun s t u => s = .int .i64 20 ∧ t = .int .i64 0 ∧ u = .int .i64 20) (fun _ _ _ => 0)
    case atStart => exact ⟨rfl, rfl, rfl⟩
    case round =>
      obtain ⟨rfl, rfl, rfl⟩ := hrel
      go_wp2
      go_end0
      obtain ⟨D, q, h1, h2⟩ := HW.out
      first | exact ⟨rfl, D, h1, q, h2⟩ | exact ⟨rfl, D, q, h1, h2⟩
theorem sortStable_any {w : World} {gs : List Lf.G} {va : Option Addr} {vc bv bO cap : Nat} (h : Sorts w gs va vc bv bO) :
    Calls Try.prog 136 #[.slice (some ⟨bO, 0, none⟩) gs.length cap, .func (.func 137) #[] #[.pointer (some ⟨bv, 0, none⟩)]] w fun e w' => e = .returned (.tuple #[]) ∧ ∃ (D : Array Nat) (q : Nat), D.toList = Lr.srt (due gs) gs.length ∧ w' = (putRow (idx gs.length) w bO 0 D).drewN q := by
  have C := Lib.hid (stable_any (cap := cap) h)
  clear h
  go_enter Try.func136, Try.ntmps136
  go_wp2_with fail
  refine C.out.mono ?_
  rintro e w1 ⟨rfl, hw1⟩
  have HW := Lib.hid hw1
  clear hw1 C
  go_wp2
  go_end0
  exact ⟨rfl, HW.out⟩
set_option maxRecDepth 20000 in
theorem insNil_any (F : Value) (w : World) : Calls Try.prog 168 #[.slice none 0 0, .int .i64 0, .int .i64 0, F] w fun e w' => e = .returned (.tuple #[]) ∧ w' = w := by
  go_enter Try.func168, Try.ntmps168
  go_wp2
  go_loop [8] (fun s => s = .int .i64 1) (fun _ => 0)
  case atStart => rfl
  case round =>
    obtain rfl := hrel
    go_wp2
    go_end0
    exact ⟨rfl, rfl⟩
set_option maxRecDepth 20000 in
theorem stableNil_any (F : Value) (w : World) : Calls Try.prog 153 #[.slice none 0 0, .int .i64 0, F] w fun e w' => e = .returned (.tuple #[]) ∧ w' = w := by
  have C := Lib.hid (insNil_any F w)
  go_enter Try.func153, Try.ntmps153
  go_wp2
  go_loop [7, 8] (fun s t => s = .int .i64 0 ∧ t = .int .i64 20) (fun _ _ => 0)
  case atStart => exact ⟨rfl, rfl⟩
  case round =>
    obtain ⟨rfl, rfl⟩ := hrel
    go_wp2_with fail
    refine C.out.mono ?_
    rintro e w1 ⟨rfl, rfl⟩
    clear C
    go_wp2
    go_loop [6, 7, 8] (fun s t u => s = .int .i64 20 ∧ t = .int .i64 0 ∧ u = .int .i64 20) (fun _ _ _ => 0)
    case atStart => exact ⟨rfl, rfl, rfl⟩
    case round =>
      obtain ⟨rfl, rfl, rfl⟩ := hrel
      go_wp2
      go_end0
      exact ⟨rfl, rfl⟩
set_option maxRecDepth 20000 in
theorem sortStableNil_any (F : Value) (w : World) : Calls Try.prog 136 #[.slice none 0 0, F] w fun e w' => e = .returned (.tuple #[]) ∧ w' = w := by
  have C := Lib.hid (stableNil_any F w)
  go_enter Try.func136, Try.ntmps136
  go_wp2_with fail
  refine C.out.mono ?_
  rintro e w1 ⟨rfl, rfl⟩
  go_wp2
  go_end0
  exact ⟨rfl, rfl⟩
end Go.Proofs.Ytabfcnfddemblaa.Lo

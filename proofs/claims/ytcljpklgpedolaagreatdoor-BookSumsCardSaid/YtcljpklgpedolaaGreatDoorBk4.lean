/- The making of a line, and a line as it is written: of the program. -/
import Derived.Test.YtcljpklgpedolaaGreatDoorBk3
namespace Go.Proofs.YtcljpklgpedolaaGreatDoor
open Go.RowKit Go.Sort

abbrev LineT : TypeId := 37
abbrev lnA (x : Bk.Ln) : Array Value := #[.int .i64 x.1, sv x.2.1, .int .i64 x.2.2]
/-- A line as it is written. -/
def Bk.fmtL (x : Bk.Ln) : List UInt8 := Lib.itoa x.1 ++ 32 :: (Lib.itoa x.2.2 ++ 32 :: (x.2.1 ++ [10]))
theorem Bk.wr_fmt (n : Nat) (b : Int) (t : List UInt8) : Bk.wr n b t = Bk.fmtL (n, t, Bk.nxt n b t) := by
  unfold Bk.wr Bk.body Bk.fmtL Bk.nxt
  simp
set_option maxRecDepth 20000 in
theorem newLine_any (n : Nat) (b : Int) (t : List UInt8) (w : World) (hE : EnvB w) (hn : n ≤ 1000000) (ht : t.length ≤ 90000) (b0 : -9223372036854775808 ≤ b) (b1 : b ≤ 9223372036854775807) :
    Calls Tryz.prog 64 #[.int .i64 n, .int .i64 b, sv t] w fun e w' => e = .returned (lnV (n, t, Bk.nxt n b t)) ∧ Below w.heap.size w w' := by
  have HI := Lib.hid (fun W hW => itoa_any (n : Int) W hW (by omega) (by omega))
  have hl := Bk.itoa_short (n := (n : Int)) (by omega) (by omega)
  have HC : Hid ((⟨(Lib.itoa n).toArray⟩ : ByteArray) ++ ((⟨#[32]⟩ : ByteArray) ++ (⟨t.toArray⟩ : ByteArray)) = ⟨(Bk.told n t).toArray⟩) := Lib.hid (by
    rw [show (⟨#[32]⟩ : ByteArray) = ⟨[(32 : UInt8)].toArray⟩ from rfl, bytes_append, bytes_append]; rfl)
  have HC2 : Hid ((⟨(Lib.itoa n).toArray⟩ : ByteArray) ++ (⟨#[32]⟩ : ByteArray) ++ (⟨t.toArray⟩ : ByteArray) = ⟨(Bk.told n t).toArray⟩) := Lib.hid (by
    rw [show (⟨#[32]⟩ : ByteArray) = ⟨[(32 : UInt8)].toArray⟩ from rfl, bytes_append, bytes_append]; unfold Bk.told; simp)
  have HS := Lib.hid (fun W hW => sum_any b ⟨(Bk.told n t).toArray⟩ W hW (by show (Bk.told n t).toArray.size ≤ _; rw [List.size_toArray]; unfold Bk.told; rw [List.length_append, List.length_cons]; omega) b0 b1)
  have HE := Lib.hid hE
  have hs : (⟨(Bk.told n t).toArray⟩ : ByteArray).data.toList = Bk.told n t := rfl
  have hx : Bk.nxt n b t = Bk.sum b (Bk.told n t) := rfl
  rw [hx]
  rw [hs] at HS
  clear hE hs hx
  generalize Bk.told n t = tl at *
  generalize Bk.sum b tl = S at *
  go_enter Tryz.func64, Tryz.ntmps64
  go_wp2_with fail
  refine (HI.out _ (HE.out.all (below_alloc (Below.refl _ _) _)).1).mono ?_
  rintro e w1 ⟨rfl, hb1⟩
  have hB := (BlockAt.new w #[.int .i64 0, .string ⟨#[]⟩, .int .i64 0] LineT).below hb1 (BlockAt.new w #[.int .i64 0, .string ⟨#[]⟩, .int .i64 0] LineT).lt
  have hw1 := below_step (below_alloc (Below.refl w.heap.size w) (.cells #[.int .i64 0, .string ⟨#[]⟩, .int .i64 0] LineT)) hb1
  clear hb1 HI
  go_wp2_with fail
  try rw [HC.out]
  try rw [HC2.out]
  refine (HS.out _ (HE.out.all hw1)).mono ?_
  rintro e w2 ⟨rfl, hb2⟩
  have hB2 := hB.below hb2 hB.lt
  have hw2 := below_step hw1 hb2
  obtain ⟨c0, c1, c2⟩ : _ ∧ _ ∧ _ := ⟨hB2.cell 0, hB2.cell 1, hB2.cell 2⟩
  obtain ⟨f0, f1, f2⟩ : _ ∧ _ ∧ _ := ⟨hB2.frozen 0, hB2.frozen 1, hB2.frozen 2⟩
  clear hb2 HS hB hw1
  go_wp2
  have hB3 := ((hB2.set 0 (.int .i64 n)).set 1 (sv t)).set 2 (.int .i64 S)
  have e0 : World.cell? _ _ = some (.int .i64 (n : Int)) := (hB2.set 0 (.int .i64 n)).cell 0
  have e1 : World.cell? _ _ = some (sv t) := ((hB2.set 0 (.int .i64 n)).set 1 (sv t)).cell 1
  have e2 : World.cell? _ _ = some (.int .i64 S) := hB3.cell 2
  exact bodyPost_ret (v := lnV (n, t, S)) (by simp [results, Tryz.results64, go_sem, e0, e1, e2]) rfl ⟨rfl, ((hw2.setCell (Nat.le_refl _) _).setCell (Nat.le_refl _) _).setCell (Nat.le_refl _) _⟩
set_option maxRecDepth 20000 in
theorem format_any (x : Bk.Ln) (w : World) (hE : EnvB w) (hn : x.1 ≤ 1000000) (ht : x.2.1.length ≤ 90000) (b0 : 0 ≤ x.2.2) (b1 : x.2.2 < 1000003) :
    Calls Tryz.prog 63 #[lnV x] w fun e w' => e = .returned (sv (Bk.fmtL x)) ∧ Below w.heap.size w w' := by
  obtain ⟨n, t, s⟩ := x
  have hn : n ≤ 1000000 := hn
  have ht : t.length ≤ 90000 := ht
  have b0 : 0 ≤ s := b0
  have b1 : s < 1000003 := b1
  have HI := Lib.hid (fun W hW => itoa_any (n : Int) W hW (by omega) (by omega))
  have HI2 := Lib.hid (fun W hW => itoa_any s W hW (by omega) (by omega))
  have l1 := Bk.itoa_short (n := (n : Int)) (by omega) (by omega)
  have l2 := Bk.itoa_short (n := s) (by omega) (by omega)
  have hC : (⟨(Lib.itoa n).toArray⟩ : ByteArray) ++ (⟨#[32]⟩ : ByteArray) ++ (⟨(Lib.itoa s).toArray⟩ : ByteArray) ++ (⟨#[32]⟩ : ByteArray) ++ (⟨t.toArray⟩ : ByteArray) ++ (⟨#[10]⟩ : ByteArray) = ⟨(Bk.fmtL (n, t, s)).toArray⟩ := by
    rw [show (⟨#[32]⟩ : ByteArray) = ⟨[(32 : UInt8)].toArray⟩ from rfl, show (⟨#[10]⟩ : ByteArray) = ⟨[(10 : UInt8)].toArray⟩ from rfl, bytes_append, bytes_append, bytes_append, bytes_append, bytes_append]
    unfold Bk.fmtL; simp
  have HC := Lib.hid hC
  have HE := Lib.hid (hE.all (below_alloc (Below.refl _ _) (.cells (lnA (n, t, s)) LineT)))
  have hB := BlockAt.new w (lnA (n, t, s)) LineT
  have hw := below_alloc (Below.refl w.heap.size w) (.cells (lnA (n, t, s)) LineT)
  have hsv : sv (Bk.fmtL (n, t, s)) = .string ⟨(Bk.fmtL (n, t, s)).toArray⟩ := rfl
  have HV := Lib.hid hsv
  clear hE hC hsv
  generalize sv (Bk.fmtL (n, t, s)) = R at *
  generalize Bk.fmtL (n, t, s) = F at *
  go_enter Tryz.func63, Tryz.ntmps63
  go_upto_region 1 with fail
  refine wp_region_seq [(0, true), (1, true), (4, true), (5, true), (9, true), (10, true), (2, false), (3, true), (6, false), (7, true), (8, true), (11, true), (12, true), (13, true)] (fun W => BlockAt W w.heap.size (lnA (n, t, s)) LineT ∧ EnvB W ∧ Below w.heap.size w W)
    (by kernel_rfl) (by kernel_rfl) (by kernel_rfl) (by kernel_rfl) (fun d _ _ _ _ h => by cases d <;> exact h) ⟨hB, HE.out, hw.drew⟩ (fun hS0 => ?_)
  repeat (first
    | (refine SeqH.take (v := ?_) rfl (by rfl) ?_ ?_; rotate_left; (· intro w hSw; (try dsimp only at hSw); obtain ⟨c0, c1, c2⟩ : _ ∧ _ ∧ _ := ⟨hSw.1.cell 0, hSw.1.cell 1, hSw.1.cell 2⟩; go_simp; (try rw [if_neg (by omega)]); (try with_reducible rfl)); simp only [Act.put, List.setIfInBounds_toArray, List.set_cons_zero, List.set_cons_succ]))
  refine SeqH.step rfl (by rfl) (fun K hK => ?_)
  go_simp
  go_at_call 60
  refine (HI.out _ hS0.2.1.1).mono ?_
  rintro e w1 ⟨rfl, hb1⟩
  try dsimp only
  refine hK.out _ _ ⟨hS0.1.below hb1 hS0.1.lt, hS0.2.1.all hb1, below_step hS0.2.2 hb1⟩ (fun hS1 => ?_)
  clear hK K
  try simp only [Act.put, List.setIfInBounds_toArray, List.set_cons_zero, List.set_cons_succ]
  repeat (first
    | (refine SeqH.take (v := ?_) rfl (by rfl) ?_ ?_; rotate_left; (· intro w hSw; (try dsimp only at hSw); obtain ⟨c0, c1, c2⟩ : _ ∧ _ ∧ _ := ⟨hSw.1.cell 0, hSw.1.cell 1, hSw.1.cell 2⟩; go_simp; (try rw [if_neg (by omega)]); (try with_reducible rfl)); simp only [Act.put, List.setIfInBounds_toArray, List.set_cons_zero, List.set_cons_succ]))
  refine SeqH.step rfl (by rfl) (fun K hK => ?_)
  go_simp
  go_at_call 60
  refine (HI2.out _ hS1.2.1.1).mono ?_
  rintro e w2 ⟨rfl, hb2⟩
  try dsimp only
  refine hK.out _ _ ⟨hS1.1.below hb2 hS1.1.lt, hS1.2.1.all hb2, below_step hS1.2.2 hb2⟩ (fun hS2 => ?_)
  clear hK K
  try simp only [Act.put, List.setIfInBounds_toArray, List.set_cons_zero, List.set_cons_succ]
  repeat (first
    | (refine SeqH.take (v := ?_) rfl (by rfl) ?_ ?_; rotate_left; (· intro w hSw; (try dsimp only at hSw); obtain ⟨c0, c1, c2⟩ : _ ∧ _ ∧ _ := ⟨hSw.1.cell 0, hSw.1.cell 1, hSw.1.cell 2⟩; go_simp; (try rw [if_neg (by omega)]); (try with_reducible rfl)); simp only [Act.put, List.setIfInBounds_toArray, List.set_cons_zero, List.set_cons_succ]))
  refine SeqH.done ?_
  go_wp2
  go_ret
  exact ⟨by rw [HV.out, ← HC.out]; rfl, hS2.2.2⟩
end Go.Proofs.YtcljpklgpedolaaGreatDoor

/-
  What the laws of stage 9 hold between two steps. Conditions: none.
-/
import Derived.Test.YtkpbkahmbbkcdaaAw
namespace Go.Proofs.Ytkpbkahmbbkcdaa
open Go.ChangeShapes Go.WideShapes Go.RowKit
set_option linter.unusedVariables false

theorem tdiv_bd (n m : Int) (h : 0 < m) (n0 : -9223372036854775808 ≤ n) (n1 : n ≤ 9223372036854775807) : -9223372036854775808 ≤ n.tdiv m ∧ n.tdiv m ≤ 9223372036854775807 := by
  rcases Int.le_total 0 n with h0 | h0
  · rw [Int.tdiv_eq_ediv_of_nonneg h0]
    have h1 := Int.ediv_nonneg h0 (by omega : 0 ≤ m)
    have h2 := Int.ediv_le_self m h0
    omega
  · have e : n.tdiv m = -((-n).tdiv m) := by rw [Int.neg_tdiv, Int.neg_neg]
    have h3 : 0 ≤ -n := by omega
    rw [e, Int.tdiv_eq_ediv_of_nonneg h3]
    have h1 := Int.ediv_nonneg h3 (by omega : 0 ≤ m)
    have h2 := Int.ediv_le_self m h3
    omega
theorem or_pow2 {a k m : Nat} (hm : 2 ^ k = m) (ha : a < m) (hk : k ≤ 60) : bits .or .i64 (a : Int) (m : Int) = ((a + m : Nat) : Int) := by
  subst hm; exact or_pow ha hk
/-- The variable gc holds the control c; nothing below B has changed. -/
def StdC (W wr : World) (B gc n : Nat) (c : Ct) : Prop := ∃ gl cl gx cx : Nat, Below B W wr ∧ Blk wr gc 25 #[.slice (some ⟨gl, 0, none⟩) n cl, .int .i64 c.gr, .slice (some ⟨gx, 0, none⟩) 2 cx, .int .i64 c.wt] ∧ LiB wr gl c.li ∧ NxB wr gx c.nx ∧ gl ≠ gc ∧ gx ≠ gc
theorem StdC.grow {W wr w' : World} {B gc n : Nat} {c : Ct} (h : StdC W wr B gc n c) (hB : B ≤ wr.heap.size) (hb : Below wr.heap.size wr w') : StdC W w' B gc n c := by
  obtain ⟨gl, cl, gx, cx, h1, h2, h3, h4, h5, h6⟩ := h
  exact ⟨gl, cl, gx, cx, h1.trans (hb.mono hB), h2.below hb, h3.below hb, h4.below hb, h5, h6⟩
theorem mod_k {a m : Int} {k : Nat} (hk : modI a m = k) (h : 0 < m) (h8 : m ≤ 4294967296) (a0 : -9223372036854775808 ≤ a) (a1 : a ≤ 9223372036854775807) (w : World) : Calls Try.prog 24 #[.int .i64 a, .int .i64 m] w fun e w' => e = .returned (.int .i64 k) ∧ w = w' := by
  rw [← hk]; exact mod_any a m h h8 a0 a1 w
theorem mod_b {a m : Int} {k : Nat} (hk : modI a m = k) (h : 0 < m) (h8 : m ≤ 4294967296) (a0 : -9223372036854775808 ≤ a) (a1 : a ≤ 9223372036854775807) (w : World) : Calls Try.prog 24 #[.int .i64 a, .int .i64 m] w fun e w' => e = .returned (.int .i64 k) ∧ Bl w w' :=
  (mod_k hk h h8 a0 a1 w).mono fun e w' ⟨h1, h2⟩ => ⟨h1, by rw [h2]; exact Bl.refl _⟩
theorem modI_nat' (a : Int) (m : Int) (h : 0 < m) : ∃ k : Nat, modI a m = k ∧ (k : Int) < m := by
  have := modI_bd a m h
  exact ⟨(modI a m).toNat, by omega, by omega⟩
theorem pvalid_any (A Bc D E : Option Addr) (cP d cL cX n : Nat) (P : List Ph) (C : List Int) (c : Ct) (st : Int) (w : World) (hj : JunC P C n st) (hjv : JunV P C st) (hv : CtV P C n st c) (hP : Phs w w.heap.size A P) (hC : Ints .i64 w w.heap.size Bc C) (hcP : n ≤ cP) (hL : Prs w w.heap.size D c.li) (hX : Ints .i64 w w.heap.size E c.nx) :
    Calls Try.prog 17 #[.agg #[.slice A n cP, .slice Bc n d, .int .i64 st], .agg #[.slice D n cL, .int .i64 c.gr, .slice E 2 cX, .int .i64 c.wt]] w fun e w' => e = .returned (.bool true) ∧ Below w.heap.size w w' := by
  have hn := hj.len
  obtain ⟨b, off, rfl, hb, hph⟩ := hP (by have := hj.h1; omega)
  exact pvalid_t Bc D E b off cP d cL cX n P C c st w hj hjv hv hb (fun i hi => hph i (by omega)) hC hcP hL hX
theorem LiB.ne_ct {w : World} {g b : Nat} {L : List (Int × Int)} {cs : Array Value} (h : LiB w g L) (hB : Blk w b 25 cs) : g ≠ b := fun e => by
  obtain ⟨ds, hd, _⟩ := h
  rw [e] at hd
  have := hd.symm.trans hB
  injection this with this; injection this with _ this; exact absurd this (by decide)
theorem NxB.ne_ct {w : World} {g b : Nat} {L : List Int} {cs : Array Value} (h : NxB w g L) (hB : Blk w b 25 cs) : g ≠ b := fun e => by
  obtain ⟨ds, hd, _⟩ := h
  rw [e] at hd
  have := hd.symm.trans hB
  injection this with this; injection this with _ this; exact absurd this (by decide)
theorem CtH.stored {w w' : World} {B n b : Nat} {v : Value} {c : Ct} {cs : Array Value} (h : CtH w B n v c) (hB : Blk w b 25 cs) (hg : w.grownBy w' (some b)) : CtH w' B n v c := by
  obtain ⟨gl, cl, gx, cx, h1, h2, h3, h4, h5⟩ := h
  exact ⟨gl, cl, gx, cx, h1, h2, h3, h4.grown hg (fun e => by injection e with e; exact h4.ne_ct hB e.symm), h5.grown hg (fun e => by injection e with e; exact h5.ne_ct hB e.symm)⟩
theorem CtH.lower {w : World} {B B' n : Nat} {v : Value} {c : Ct} (h : CtH w B n v c) (hb : B' ≤ B) : CtH w B' n v c := by
  obtain ⟨gl, cl, gx, cx, h1, h2, h3, h4, h5⟩ := h
  exact ⟨gl, cl, gx, cx, h1, ⟨Nat.le_trans hb h2.1, h2.2⟩, Nat.le_trans hb h3, h4, h5⟩
end Go.Proofs.Ytkpbkahmbbkcdaa

/-
  Where the phases are that the reference's controls name. Conditions: none.
-/
import Derived.Test.YtkpbkahmbbkcdaaBe
namespace Go.Proofs.Ytkpbkahmbbkcdaa
open Go.ChangeShapes Go.WideShapes Go.RowKit
set_option linter.unusedVariables false

theorem Phs.stay {w w' : World} {B : Nat} {A : Option Addr} {P : List Ph} (h : Phs w B A P) (hb : Below B w w') : Phs w' B A P := fun h0 => by
  obtain ⟨b, off, rfl, hbB, hc⟩ := h h0
  exact ⟨b, off, rfl, hbB, fun i hi => (hc i hi).block (hb.block b hbB)⟩
theorem Prs.low {w w' : World} {B : Nat} {A : Option Addr} {S : List (Int × Int)} (h : Prs w B A S) (hb : Below B w w') (hB : B ≤ w.heap.size) : Prs w' w'.heap.size A S := fun h0 => by
  obtain ⟨b, off, rfl, hbB, hc⟩ := h h0
  have hh := hb.block b hbB
  have hcc : ∀ i, w'.cell? ⟨b, i, none⟩ = w.cell? ⟨b, i, none⟩ := fun i => World.cell?_of_block hh
  exact ⟨b, off, rfl, Nat.lt_of_lt_of_le hbB (Nat.le_trans hB hb.size), fun i hi => ⟨(hcc _).trans (hc i hi).1, (hcc _).trans (hc i hi).2⟩⟩
theorem Blk.low {w w' : World} {B g : Nat} {t : TypeId} {cs : Array Value} (h : Blk w g t cs) (hb : Below B w w') (hg : g < B) : Blk w' g t cs := (hb.block g hg).trans h
theorem Out.ne {w : World} {gO B n gl cl gx cx : Nat} {c : Ct} (h : Out w gO B n gl cl gx cx c) : gl ≠ gx := fun e => by
  obtain ⟨cs, hB, _⟩ := h.li
  obtain ⟨cs', hB', _⟩ := h.nx
  rw [e] at hB
  have := hB.symm.trans hB'
  injection this with this
  injection this with _ this
  exact absurd this (by decide)
theorem firstGt_bd (P : List Ph) (r g p : Int) (n : Nat) : -1 ≤ firstGt (ofL P r g n) p ∧ firstGt (ofL P r g n) p < n := by
  rcases firstGt_mem p (ofL P r g n) with h | h
  · rw [h]; omega
  · obtain ⟨i, hi, he, _⟩ := ofL_mem P r g _ n h
    rw [he]; omega
def NxIn (n : Nat) (nx : List Int) : Prop := ∀ r, -1 ≤ at_ nx r ∧ at_ nx r < n
theorem nxL_in (P : List Ph) (n : Nat) (g : Int) (h1 : 0 < n) : NxIn n (nxL P n g 2) := fun r => by
  have h0 := firstGt_bd P ((0 : Nat) : Int) g (-1) n
  have h2 := firstGt_bd P ((1 : Nat) : Int) g (-1) n
  have e : nxL P n g 2 = [firstGt (ofL P ((0 : Nat) : Int) g n) (-1), firstGt (ofL P ((1 : Nat) : Int) g n) (-1)] := rfl
  rw [e]
  rcases r with _ | _ | r
  · exact h0
  · exact h2
  · have : at_ [firstGt (ofL P ((0 : Nat) : Int) g n) (-1), firstGt (ofL P ((1 : Nat) : Int) g n) (-1)] (r + 2) = 0 := by simp [at_]
    rw [this]; omega
theorem NxIn.set {n : Nat} {nx : List Int} (h : NxIn n nx) (h1 : 0 < n) (i : Nat) {x : Int} (hx : -1 ≤ x ∧ x < n) : NxIn n (nx.set i x) := fun r => by
  by_cases hi : i < nx.length
  · rw [at_set hi]; split
    · exact hx
    · exact h r
  · rw [List.set_eq_of_length_le (by omega)]; exact h r
theorem begin_in (P : List Ph) (C : List Int) (n : Nat) (c : Ct) (q : Nat) (h1 : 0 < n) (h : NxIn n c.nx) : NxIn n (beginC P C n c q).nx := by
  unfold beginC
  split
  · exact h
  · show NxIn n (List.set _ _ _)
    refine NxIn.set ?_ h1 _ (firstGt_bd P _ _ _ n)
    split
    · exact nxL_in P n _ h1
    · exact h
theorem candF_bd (P : List Ph) (C : List Int) (nx r : Int) (t n : Nat) : ∀ (k q : Nat) (f : Int), q + k = n → -1 ≤ f → f < n → -1 ≤ candF P C nx r t q k f ∧ candF P C nx r t q k f < n
  | 0, q, f, _, h0, h1 => ⟨h0, h1⟩
  | k + 1, q, f, h, h0, h1 => by
    rw [candF]
    split
    · exact candF_bd P C nx r t n k (q + 1) f (by omega) h0 h1
    · split
      · omega
      · refine candF_bd P C nx r t n k (q + 1) _ (by omega) ?_ ?_ <;> (split <;> omega)
theorem candV_bd (P : List Ph) (C : List Int) (n : Nat) (nx r : Int) (t : Nat) (ht : t < n) : -1 ≤ candV P C n nx r t ∧ candV P C n nx r t < n := by
  unfold candV
  split
  · omega
  · exact candF_bd P C nx r t n n 0 (-1) (by omega) (by omega) (by omega)
theorem onC_ok (P : List Ph) (C : List Int) (n t : Nat) (c : Ct) (h1 : 0 < n) (hl : c.li.length = n) (hx : c.nx.length = 2) (hi : NxIn n c.nx) : ∀ r, (onC P C n t c r).li.length = n ∧ (onC P C n t c r).nx.length = 2 ∧ NxIn n (onC P C n t c r).nx
  | 0 => ⟨hl, hx, hi⟩
  | r + 1 => by
    obtain ⟨a, b, d⟩ := onC_ok P C n t c h1 hl hx hi r
    rw [onC]
    split
    · exact ⟨(begin_len P C n _ _ b).1.trans a, (begin_len P C n _ _ b).2, begin_in P C n _ _ h1 d⟩
    · exact ⟨a, b, d⟩
theorem offC_ok (P : List Ph) (C : List Int) (n : Nat) (c : Ct) (h1 : 0 < n) (hl : c.li.length = n) (hx : c.nx.length = 2) (hi : NxIn n c.nx) : ∀ r, (offC P C n c r).li.length = n ∧ (offC P C n c r).nx.length = 2 ∧ NxIn n (offC P C n c r).nx
  | 0 => ⟨hl, hx, hi⟩
  | r + 1 => by
    obtain ⟨a, b, d⟩ := offC_ok P C n c h1 hl hx hi r
    rw [offC]
    split
    · exact ⟨(begin_len P C n _ _ b).1.trans a, (begin_len P C n _ _ b).2, begin_in P C n _ _ h1 d⟩
    · exact ⟨a, b, d⟩
theorem on_succ (P : List Ph) (C : List Int) (n t : Nat) (c : Ct) (r : Nat) : onC P C n t c (r + 1) = if 0 ≤ candV P C n (at_ (onC P C n t c r).nx r) r t ∧ IdleP P (onC P C n t c r).li n r then beginC P C n (onC P C n t c r) (candV P C n (at_ (onC P C n t c r).nx r) r t).toNat else onC P C n t c r := rfl
theorem off_succ (P : List Ph) (C : List Int) (n : Nat) (c : Ct) (r : Nat) : offC P C n c (r + 1) = if IdleP P (offC P C n c r).li n r ∧ 0 ≤ at_ (offC P C n c r).nx r then beginC P C n (offC P C n c r) (at_ (offC P C n c r).nx r).toNat else offC P C n c r := rfl
end Go.Proofs.Ytkpbkahmbbkcdaa

/-
  How long a light lasts: a count of the steps since it changed. Conditions: a valid junction, a valid control.
-/
import Derived.Test.YtkpbkahmbbkcdaaGw
namespace Go.Proofs.Ytkpbkahmbbkcdaa
open Go.ChangeShapes Go.WideShapes Go.RowKit
set_option linter.unusedVariables false

theorem made_zeros (n : Nat) : (madeCells #[Value.int .i64 0] n).toList = (List.replicate n (0 : Int)).map (Value.int .i64) := by
  unfold madeCells
  simp [Nat.mod_one, List.map_const']
theorem zeros_nxb {w : World} (n : Nat) (hn : n ≤ 1000) : NxB (w.alloc (.cells (madeCells #[.int .i64 0] n) 3)) w.heap.size (List.replicate n 0) := by
  refine ⟨_, Blk.new, fun i hi => ?_⟩
  rw [List.length_replicate] at hi
  have := congrArg (fun l => l[i]?) (made_zeros n)
  simp only [List.getElem?_map, List.getElem?_replicate, hi, if_true, Option.map_some] at this
  have e : at_ (List.replicate n (0 : Int)) i = 0 := by simp [at_, hi]
  rw [e, ← this]; simp
/-- A change of a light from a to b after s steps, as the document has it. -/
def GOk (p : Ph) (a b s : Int) : Prop := (a = 0 ∧ b = 1) ∨ (a = 1 ∧ b = 2 ∧ needV p ≤ s) ∨ (a = 2 ∧ s = p.yl ∧ (b = 3 ∧ 0 < p.rd ∨ b ≠ 3 ∧ ¬ 0 < p.rd)) ∨ (a = 3 ∧ s = p.rd ∧ b ≠ 2)
theorem light_change {p : Ph} (hp : PhOk p) {a tk s : Int} {lv : Bool} (h0 : LiOk p a tk) (hs : a ≠ 0 → s = tk) (hb : s ≤ 1000) :
    ((stepV p a tk lv).1 = a ∧ (a ≠ 0 → (stepV p a tk lv).2 = s + 1)) ∨ ((stepV p a tk lv).1 ≠ a ∧ GOk p a (stepV p a tk lv).1 (s + 1) ∧ (stepV p a tk lv).2 = 0) := by
  have h1 := hp.yl
  have h2 := hp.rd
  unfold LiOk at h0
  rcases h0 with ⟨rfl, ta, tb⟩ | ⟨rfl, ta, tb⟩ | ⟨rfl, ta, tb⟩ | ⟨rfl, rfl⟩
  · obtain rfl := hs (by decide)
    by_cases hq : lv = true ∧ needV p ≤ s + 1
    · have e : stepV p 1 s lv = (2, 0) := by simp [stepV, hq]
      rw [e]
      exact .inr ⟨by decide, .inr (.inl ⟨rfl, rfl, hq.2⟩), rfl⟩
    · have e : stepV p 1 s lv = (1, min (s + 1) 1073741824) := by simp only [stepV, if_true, if_neg hq]
      rw [e]
      exact .inl ⟨rfl, fun _ => by show min (s + 1) 1073741824 = s + 1; omega⟩
  · obtain rfl := hs (by decide)
    by_cases hq : s + 1 < p.yl
    · have e : stepV p 2 s lv = (2, s + 1) := by simp [stepV, hq]
      rw [e]
      exact .inl ⟨rfl, fun _ => rfl⟩
    · by_cases hr : 0 < p.rd
      · have e : stepV p 2 s lv = (3, 0) := by simp [stepV, hq, hr]
        rw [e]
        exact .inr ⟨by decide, .inr (.inr (.inl ⟨rfl, by omega, .inl ⟨rfl, hr⟩⟩)), rfl⟩
      · have e : stepV p 2 s lv = (0, 0) := by simp [stepV, hq, hr]
        rw [e]
        exact .inr ⟨by decide, .inr (.inr (.inl ⟨rfl, by omega, .inr ⟨by show (0 : Int) ≠ 3; decide, hr⟩⟩)), rfl⟩
  · obtain rfl := hs (by decide)
    by_cases hq : s + 1 < p.rd
    · have e : stepV p 3 s lv = (3, s + 1) := by simp [stepV, hq]
      rw [e]
      exact .inl ⟨rfl, fun _ => rfl⟩
    · have e : stepV p 3 s lv = (0, 0) := by simp [stepV, hq]
      rw [e]
      exact .inr ⟨by decide, .inr (.inr (.inr ⟨rfl, by omega, by show (0 : Int) ≠ 2; decide⟩)), rfl⟩
  · have e : stepV p 0 0 lv = (0, 0) := by simp [stepV]
    rw [e]
    exact .inl ⟨rfl, fun h => absurd rfl h⟩
theorem greens_step {P : List Ph} {C : List Int} {n : Nat} {st : Int} {c : Ct} (hj : JunC P C n st) (hv : CtV P C n st c) (t : Int) {p : Nat} (hp : p < n) {s : Int} (hs : lmp c.li p ≠ 0 → s = tck c.li p) (hb : s ≤ 1000) :
    (lmp c.li p = lmp (stepC P C n c t).li p ∧ (lmp (stepC P C n c t).li p ≠ 0 → s + 1 = tck (stepC P C n c t).li p)) ∨ (lmp c.li p ≠ lmp (stepC P C n c t).li p ∧ GOk (phAt P p) (lmp c.li p) (lmp (stepC P C n c t).li p) (s + 1) ∧ tck (stepC P C n c t).li p = 0) := by
  have hwb := hv.wt
  by_cases hw : 0 < c.wt
  · have e : (stepC P C n c t).li = c.li := by unfold stepC; rw [if_pos hw]
    rw [e]
    refine .inl ⟨rfl, fun h => ?_⟩
    rcases hv.red with h1 | h1
    · omega
    · exact absurd (h1 p hp) h
  · have hw0 : c.wt = 0 := by omega
    have hlc := light_change (hj.pok p hp) (lv := leaveB P C c.li n t p) (hv.ok p hp) hs hb
    rcases step_cases hj hv hw0 t hp with h | ⟨h1, h2, h3, _⟩
    · rw [h.1, h.2]
      rcases hlc with ⟨a, b⟩ | ⟨a, b, d⟩
      · exact .inl ⟨a.symm, fun hh => (b (by rw [← a]; exact hh)).symm⟩
      · exact .inr ⟨fun e => a e.symm, b, d⟩
    · rw [h1, h2]
      have h3' : (stepV (phAt P p) (lmp c.li p) (tck c.li p) (leaveB P C c.li n t p)).1 = 0 := h3
      rw [h3'] at hlc
      rcases hlc with ⟨a, b⟩ | ⟨a, b, d⟩
      · exact .inr ⟨by rw [← a]; decide, .inl ⟨a.symm, rfl⟩, rfl⟩
      · refine .inr ⟨?_, ?_, rfl⟩
        · intro e
          rw [e] at b
          rcases b with ⟨h, _⟩ | ⟨_, h, _⟩ | ⟨h, _⟩ | ⟨h, _⟩ <;> exact absurd h (by decide)
        · rcases b with ⟨h, h'⟩ | ⟨h, h', _⟩ | ⟨h, h', h''⟩ | ⟨h, h', _⟩
          · exact absurd h' (by decide)
          · exact absurd h' (by decide)
          · refine .inr (.inr (.inl ⟨h, h', .inr ⟨by decide, ?_⟩⟩))
            rcases h'' with ⟨x, _⟩ | ⟨_, x⟩
            · exact absurd x (by decide)
            · exact x
          · exact .inr (.inr (.inr ⟨h, h', by decide⟩))
/-- The counts when the first p phases have been looked at. -/
structure SinI (n : Nat) (c s : Ct) (i p : Nat) (S : List Int) : Prop where
  len : S.length = n
  bd : ∀ q, q < n → 0 ≤ at_ S q ∧ at_ S q ≤ (i : Int) + if q < p then 1 else 0
  old : ∀ q, q < n → p ≤ q → lmp c.li q ≠ 0 → at_ S q = tck c.li q
  new : ∀ q, q < n → q < p → lmp s.li q ≠ 0 → at_ S q = tck s.li q
theorem SinI.zero {n : Nat} {c s : Ct} {i : Nat} {S : List Int} (h1 : S.length = n) (h2 : ∀ q, q < n → 0 ≤ at_ S q ∧ at_ S q ≤ (i : Int)) (h3 : ∀ q, q < n → lmp c.li q ≠ 0 → at_ S q = tck c.li q) : SinI n c s i 0 S :=
  ⟨h1, fun q hq => by have := h2 q hq; simpa using this, fun q hq _ h => h3 q hq h, fun q _ h => absurd h (by omega)⟩
theorem SinI.next {n : Nat} {c s : Ct} {i p : Nat} {S : List Int} (h : SinI n c s i p S) (hp : p < n) {v : Int} (h0 : 0 ≤ v ∧ v ≤ (i : Int) + 1) (h1 : lmp s.li p ≠ 0 → v = tck s.li p) : SinI n c s i (p + 1) (S.set p v) := by
  have hl := h.len
  refine ⟨by rw [List.length_set]; exact hl, fun q hq => ?_, fun q hq hpq hne => ?_, fun q hq hpq hne => ?_⟩
  · rw [at_set (by omega)]
    by_cases e : q = p
    · rw [if_pos e, e]; simp; omega
    · rw [if_neg e]
      have := h.bd q hq
      by_cases h2 : q < p
      · rw [if_pos h2] at this; rw [if_pos (by omega)]; exact this
      · rw [if_neg h2] at this; rw [if_neg (by omega)]; exact this
  · rw [at_set (by omega), if_neg (by omega)]
    exact h.old q hq (by omega) hne
  · rw [at_set (by omega)]
    by_cases e : q = p
    · rw [if_pos e]; subst e; exact h1 hne
    · rw [if_neg e]; exact h.new q hq (by omega) hne
theorem SinI.fin {n : Nat} {c s : Ct} {i : Nat} {S : List Int} (h : SinI n c s i n S) : (∀ q, q < n → 0 ≤ at_ S q ∧ at_ S q ≤ ((i + 1 : Nat) : Int)) ∧ ∀ q, q < n → lmp s.li q ≠ 0 → at_ S q = tck s.li q :=
  ⟨fun q hq => by have := h.bd q hq; rw [if_pos hq] at this; omega, fun q hq hne => h.new q hq hq hne⟩
end Go.Proofs.Ytkpbkahmbbkcdaa

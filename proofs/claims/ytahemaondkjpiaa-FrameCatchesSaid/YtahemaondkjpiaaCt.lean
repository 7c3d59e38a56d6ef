/-
  Plain facts: a frame with a burst of at most 32 bits in its payload is judged by its check sum. No Go function is walked here.
-/
import Derived.Test.YtahemaondkjpiaaFc
import Derived.Test.YtahemaondkjpiaaBm
namespace Go.Proofs.Ytahemaondkjpiaa
open Go.ChangeShapes Go.WideShapes Go.RowKit
set_option linter.unusedVariables false

theorem turned_none (ch a t : Nat) : turned ch a 0 t = false := by unfold turned; simp; omega
theorem bit_test (ch k : Nat) (h : ch < 4294967296) : (bits .and .u32 ((ch : Int) / 2 ^ k) 1 == 1) = ch.testBit k := by
  have e : (ch : Int) / 2 ^ k = ((ch / 2 ^ k : Nat) : Int) := by simp
  have hlt : ch / 2 ^ k < 4294967296 := Nat.lt_of_le_of_lt (Nat.div_le_self _ _) h
  rw [e, show (1 : Int) = ((1 : Nat) : Int) from rfl, u32_and_nat _ _ hlt (by omega), show (1 : Nat) = 2 ^ 1 - 1 from rfl, Nat.and_two_pow_sub_one_eq_mod, Nat.testBit_eq_decide_div_mod_eq]
  rw [Bool.eq_iff_iff]; simp; omega
theorem pow_byte (n : Nat) : (2 : Int) ^ (n % 8) % 256 = ((2 ^ (n % 8) : Nat) : Int) := by
  have h2 : 2 ^ (n % 8) < 2 ^ 8 := Nat.pow_lt_pow_right (by omega) (by omega)
  have e : (2 : Int) ^ (n % 8) = ((2 ^ (n % 8) : Nat) : Int) := by simp
  rw [e]; generalize 2 ^ (n % 8) = m at h2 ⊢; omega
theorem turned_far {ch a k n t : Nat} (h : ¬ a + k < n) (ht : t < n) : turned ch a (k + 1) t = turned ch a k t := by
  rw [turned_next]; simp [show ¬ t = a + k by omega]
theorem turned_no {ch a k : Nat} (h : ¬ ch.testBit k = true) (t : Nat) : turned ch a (k + 1) t = turned ch a k t := by
  rw [turned_next]; simp [h]

theorem RowB.cell {w : World} {g : Nat} {l : List Int} (h : RowB w g l) {i : Nat} (hi : i < l.length) : w.cell? ⟨g, i, none⟩ = some (.int .u8 (at_ l i)) ∧ w.frozen? ⟨g, i, none⟩ = false :=
  ⟨by rw [Blk.cell h i]; simp [at_, hi], Blk.frozen h i⟩
theorem RowB.set {w : World} {g : Nat} {l : List Int} (h : RowB w g l) (i : Nat) (x : Int) : RowB (w.setCell ⟨g, i, none⟩ (.int .u8 x)) g (l.set i x) := by
  have := Blk.set_ h i (.int .u8 x)
  unfold RowB
  rw [List.map_set]
  simpa using this
/-- The frame whose payload is C, with a given check sum. -/
def frm (k : Int) (n : Int) (C : List Int) (r : BitVec 32) : List Int := [90, 165, 1, k, 0, n] ++ (C ++ four r)
theorem frm_len (k n : Int) (C : List Int) (r : BitVec 32) : (frm k n C r).length = C.length + 10 := by simp [frm, four]
theorem frm_enc (k : Int) (p : List Int) : encL k p = frm k p.length p (upd 0#32 (bodyL k p)) := enc_eq k p
theorem frm_at {k n : Int} {C : List Int} {r : BitVec 32} {i : Nat} (hi : i < C.length) : at_ (frm k n C r) (6 + i) = at_ C i := by
  unfold frm at_
  rw [List.getD_eq_getElem?_getD, List.getElem?_append_right (by simp), List.getD_eq_getElem?_getD]
  rw [show 6 + i - ([90, 165, 1, k, 0, n] : List Int).length = i by simp, List.getElem?_append_left hi]
theorem frm_set (k n : Int) (C : List Int) (r : BitVec 32) (i : Nat) (x : Int) (hi : i < C.length) : (frm k n C r).set (6 + i) x = frm k n (C.set i x) r := by
  unfold frm
  rw [List.set_append_right _ _ (by simp), show 6 + i - ([90, 165, 1, k, 0, n] : List Int).length = i by simp, List.set_append_left _ _ hi]
theorem frm_byte {k n : Int} {C : List Int} (r : BitVec 32) (k0 : 0 ≤ k) (k1 : k ≤ 255) (n0 : 0 ≤ n) (n1 : n ≤ 255) (hC : Byte C) : Byte (frm k n C r) := by
  unfold frm
  refine Byte.app (fun x hx => ?_) (hC.app (four_byte r))
  simp at hx
  rcases hx with rfl | rfl | rfl | rfl | rfl | rfl <;> omega
theorem frm_par {k : Int} {C : List Int} {n : Int} (r : BitVec 32) (h0 : 1 ≤ k) (h1 : k ≤ 22) (hn : n = C.length) (hl : C.length ≤ 200) :
    par (frm k n C r) = if un (upd 0#32 (bodyL k C)) = un r then (0, k, C, ((C.length + 10 : Nat) : Int), true) else (4, 0, [], 1, true) := by
  subst hn
  have hlen := frm_len k C.length C r
  have e0 : at_ (frm k C.length C r) 0 = 90 := rfl
  have e1 : at_ (frm k C.length C r) 1 = 165 := rfl
  have e2 : at_ (frm k C.length C r) 2 = 1 := rfl
  have e3 : at_ (frm k C.length C r) 3 = k := rfl
  have e4 : at_ (frm k C.length C r) 4 = 0 := rfl
  have e5 : at_ (frm k C.length C r) 5 = (C.length : Int) := rfl
  have et : tailS (frm k C.length C r) = un r := by
    unfold tailS
    rw [hlen]
    unfold frm
    rw [show C.length + 10 - 4 = C.length + 6 + 0 by omega, show C.length + 10 - 3 = C.length + 6 + 1 by omega, show C.length + 10 - 2 = C.length + 6 + 2 by omega, show C.length + 10 - 1 = C.length + 6 + 3 by omega]
    rw [at_late _ _ _ rfl, at_late _ _ _ rfl, at_late _ _ _ rfl, at_late _ _ _ rfl]
    exact four_sum _
  have eb : ((frm k C.length C r).drop 2).take ((frm k C.length C r).length - 6) = bodyL k C := by
    rw [hlen, show C.length + 10 - 6 = (bodyL k C).length by rw [body_len]; omega]
    show ((bodyL k C ++ four r)).take (bodyL k C).length = bodyL k C
    simp
  have ed : ((frm k C.length C r).drop 6).take ((frm k C.length C r).length - 10) = C := by
    rw [hlen, show C.length + 10 - 10 = C.length by omega]
    show (C ++ four r).take C.length = C
    simp
  have ej : jud (frm k C.length C r) = if un (upd 0#32 (bodyL k C)) = un r then (0, k, C, ((C.length + 10 : Nat) : Int)) else (4, 0, [], 1) := by
    unfold jud
    rw [eb, e2, e3, ed, et, hlen]
    by_cases h : un (upd 0#32 (bodyL k C)) = un r
    · rw [if_neg (by simpa using h), if_neg (by simp), if_neg (by omega), if_pos h]
    · rw [if_pos h, if_neg h]
  unfold par
  rw [hlen, e0, e1, e4, e5, if_neg (by omega), if_neg (by simp), if_neg (by omega), if_neg (by omega), if_neg (by push_cast; omega), show ((0 : Int) * 256 + (C.length : Int) + 10).toNat = (frm k C.length C r).length by rw [hlen]; omega, List.take_length, ej]
  by_cases h : un (upd 0#32 (bodyL k C)) = un r
  · rw [if_pos h, if_pos h]
  · rw [if_neg h, if_neg h]
theorem body_bits (k : Int) (C : List Int) (n : Int) (t : Nat) : bitsOf ([1, k, 0, n] ++ C) t = if t < 32 then bitsOf [1, k, 0, n] t else bitsOf C (t - 32) := by
  unfold bitsOf at_
  by_cases h : t < 32
  · rw [if_pos h, List.getD_eq_getElem?_getD, List.getElem?_append_left (by simp; omega), List.getD_eq_getElem?_getD]
  · rw [if_neg h, List.getD_eq_getElem?_getD, List.getElem?_append_right (by simp; omega), List.getD_eq_getElem?_getD]
    rw [show t / 8 - ([1, k, 0, n] : List Int).length = (t - 32) / 8 by simp; omega, show (t - 32) % 8 = t % 8 by omega]
theorem frm_burst {k : Int} {p C : List Int} (k0 : 0 ≤ k) (k1 : k ≤ 255) (hp : Byte p) (hC : Byte C) (hl : C.length = p.length) (h200 : p.length ≤ 200) (ch a : Nat) (h : ∀ t, t < 8 * p.length → bitsOf C t = (bitsOf p t ^^ turned ch a 32 t)) :
    (un (upd 0#32 (bodyL k C)) = un (upd 0#32 (bodyL k p))) ↔ ¬ ∃ t, t < 8 * p.length ∧ turned ch a 32 t = true := by
  have hb := burst_end (bodyL k p) (bodyL k C) (body_byte k0 k1 hp h200) (body_byte k0 k1 hC (by omega)) (by rw [body_len, body_len, hl]) ch (a + 32) (fun t ht => by
    rw [body_len] at ht
    unfold bodyL
    rw [body_bits, body_bits, hl]
    by_cases h32 : t < 32
    · rw [if_pos h32, if_pos h32]
      have : turned ch (a + 32) 32 t = false := by unfold turned; simp; omega
      rw [this, Bool.xor_false]
    · rw [if_neg h32, if_neg h32, h (t - 32) (by omega)]
      congr 1
      unfold turned
      rw [show t - 32 - a = t - (a + 32) by omega, show decide (a + 32 ≤ t ∧ t < a + 32 + 32) = decide (a ≤ t - 32 ∧ t - 32 < a + 32) from decide_eq_decide.2 (by omega)])
  have hx : (∃ t, t < 8 * (bodyL k p).length ∧ turned ch (a + 32) 32 t = true) ↔ ∃ t, t < 8 * p.length ∧ turned ch a 32 t = true := by
    rw [body_len]
    constructor
    · rintro ⟨t, ht, hh⟩
      have ht2 : a + 32 ≤ t := by unfold turned at hh; simp at hh; omega
      refine ⟨t - 32, by omega, ?_⟩
      unfold turned at hh ⊢
      rw [show t - 32 - a = t - (a + 32) by omega]
      simp at hh ⊢
      exact ⟨by omega, hh.2⟩
    · rintro ⟨t, ht, hh⟩
      refine ⟨t + 32, by omega, ?_⟩
      unfold turned at hh ⊢
      rw [show t + 32 - (a + 32) = t - a by omega]
      simp at hh ⊢
      exact ⟨by omega, hh.2⟩
  rw [← hx, ← hb]
  constructor
  · intro e h; exact h (un_inj e).symm
  · intro h
    have : upd 0#32 (bodyL k p) = upd 0#32 (bodyL k C) := Classical.byContradiction h
    rw [this]
end Go.Proofs.Ytahemaondkjpiaa

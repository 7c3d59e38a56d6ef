/-
  Plain facts: a frame is read back, whatever follows, and no proper beginning of it is. No Go function is walked here.
-/
import Derived.Test.YtahemaondkjpiaaPp
namespace Go.Proofs.Ytahemaondkjpiaa
open Go.ChangeShapes Go.WideShapes Go.RowKit
set_option linter.unusedVariables false

theorem enc_eq (k : Int) (p : List Int) : encL k p = [90, 165, 1, k, 0, (p.length : Int)] ++ (p ++ four (upd 0#32 (bodyL k p))) := by simp [encL, bodyL]
theorem enc_len (k : Int) (p : List Int) : (encL k p).length = p.length + 10 := by rw [enc_eq]; simp [four]
theorem four_sum (r : BitVec 32) : sum4 (un r / 16777216) (un r / 65536 % 256) (un r / 256 % 256) (un r % 256) = un r := by
  have h0 := un_lo r
  have h1 := un_hi r
  unfold sum4
  omega
theorem four_byte (r : BitVec 32) : Byte (four r) := fun n hn => by
  have h0 := un_lo r
  have h1 := un_hi r
  simp [four] at hn
  rcases hn with rfl | rfl | rfl | rfl <;> omega
theorem enc_byte {k : Int} {p : List Int} (h0 : 0 ≤ k) (h1 : k ≤ 255) (hp : Byte p) (hl : p.length ≤ 200) : Byte (encL k p) := by
  unfold encL
  refine Byte.app (fun n hn => ?_) (Byte.app (body_byte h0 h1 hp hl) (four_byte _))
  simp at hn
  rcases hn with rfl | rfl <;> omega
theorem at_late (six p q : List Int) (h6 : six.length = 6) (i : Nat) : at_ (six ++ (p ++ q)) (p.length + 6 + i) = at_ q i := by
  unfold at_
  rw [List.getD_eq_getElem?_getD, List.getElem?_append_right (by omega), List.getElem?_append_right (by omega), List.getD_eq_getElem?_getD]
  congr 2
  omega
theorem enc_tail (k : Int) (p : List Int) : tailS (encL k p) = un (upd 0#32 (bodyL k p)) := by
  unfold tailS
  rw [enc_len, enc_eq]
  rw [show p.length + 10 - 4 = p.length + 6 + 0 by omega, show p.length + 10 - 3 = p.length + 6 + 1 by omega, show p.length + 10 - 2 = p.length + 6 + 2 by omega, show p.length + 10 - 1 = p.length + 6 + 3 by omega]
  rw [at_late _ _ _ rfl, at_late _ _ _ rfl, at_late _ _ _ rfl, at_late _ _ _ rfl]
  exact four_sum _
theorem enc_jud {k : Int} {p : List Int} (h0 : 1 ≤ k) (h1 : k ≤ 22) : jud (encL k p) = (0, k, p, ((p.length + 10 : Nat) : Int)) := by
  have e1 : ((encL k p).drop 2).take ((encL k p).length - 6) = bodyL k p := by
    rw [enc_len, show p.length + 10 - 6 = (bodyL k p).length by rw [body_len]; omega]
    show ((bodyL k p ++ four (upd 0#32 (bodyL k p)))).take (bodyL k p).length = bodyL k p
    simp
  have e2 : at_ (encL k p) 2 = 1 := rfl
  have e3 : at_ (encL k p) 3 = k := rfl
  have e4 : ((encL k p).drop 6).take ((encL k p).length - 10) = p := by
    rw [enc_len, show p.length + 10 - 10 = p.length by omega]
    show (p ++ four (upd 0#32 (bodyL k p))).take p.length = p
    simp
  unfold jud
  rw [e1, e2, e3, e4, enc_tail, enc_len, if_neg (by simp), if_neg (by simp), if_neg (by omega)]
theorem enc_par {k : Int} {p : List Int} (more : List Int) (h0 : 1 ≤ k) (h1 : k ≤ 22) (hl : p.length ≤ 200) : par (encL k p ++ more) = (0, k, p, ((p.length + 10 : Nat) : Int), true) := by
  have hlen : (encL k p ++ more).length = p.length + 10 + more.length := by rw [List.length_append, enc_len]
  have e0 : at_ (encL k p ++ more) 0 = 90 := rfl
  have e1 : at_ (encL k p ++ more) 1 = 165 := rfl
  have e4 : at_ (encL k p ++ more) 4 = 0 := rfl
  have e5 : at_ (encL k p ++ more) 5 = (p.length : Int) := rfl
  unfold par
  rw [hlen, e0, e1, e4, e5, if_neg (by omega), if_neg (by simp), if_neg (by omega), if_neg (by omega), if_neg (by push_cast; omega), show ((0 : Int) * 256 + (p.length : Int) + 10).toNat = (encL k p).length by rw [enc_len]; omega, List.take_left', enc_jud h0 h1]
  rfl
theorem enc_early {k : Int} {p : List Int} (c : Nat) (h0 : 1 ≤ k) (h1 : k ≤ 22) (hl : p.length ≤ 200) (hc : c < p.length + 10) : (par ((encL k p).take c)).2.2.2.2 = false := by
  have hlen : ((encL k p).take c).length = c := by rw [List.length_take, enc_len]; omega
  have hat : ∀ i, i < c → at_ ((encL k p).take c) i = at_ (encL k p) i := fun i hi => by
    unfold at_
    rw [List.getD_eq_getElem?_getD, List.getElem?_take_of_lt hi, List.getD_eq_getElem?_getD]
  unfold par
  rw [hlen]
  by_cases c0 : c = 0
  · rw [if_pos c0]
  · rw [if_neg c0, hat 0 (by omega)]
    have e0 : at_ (encL k p) 0 = 90 := rfl
    by_cases c1 : 1 < c
    · rw [hat 1 (by omega)]
      have e1 : at_ (encL k p) 1 = 165 := rfl
      rw [e0, e1, if_neg (by simp)]
      by_cases c6 : c < 6
      · rw [if_pos c6]
      · rw [if_neg c6, hat 4 (by omega), hat 5 (by omega)]
        have e4 : at_ (encL k p) 4 = 0 := rfl
        have e5 : at_ (encL k p) 5 = (p.length : Int) := rfl
        rw [e4, e5, if_neg (by omega), if_pos (by omega)]
    · rw [e0, if_neg (by omega), if_pos (by omega)]
theorem par_one : par [90] = (0, 0, [], 0, false) := by
  unfold par
  rw [if_neg (by simp), if_neg (by simp [at_]), if_pos (by simp)]
end Go.Proofs.Ytahemaondkjpiaa

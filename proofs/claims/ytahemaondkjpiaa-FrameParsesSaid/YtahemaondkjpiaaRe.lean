/-
  Encode of layer 3's reference. Conditions: none.
-/
import Derived.Test.YtahemaondkjpiaaEn
namespace Go.Proofs.Ytahemaondkjpiaa
open Go.ChangeShapes Go.WideShapes Go.RowKit
set_option linter.unusedVariables false

theorem own_cut {w1 : World} {base n : Nat} {v : Value} {l : List Int} (h : Own .u8 5 w1 base v l) (hn : l.length = n) (h0 : 0 < n) :
    ∃ g cap, v = .slice (some ⟨g, 0, none⟩) n cap ∧ base ≤ g ∧ g < w1.heap.size ∧ n ≤ cap ∧ cap ≤ 9223372036854775807 ∧ Ints .u8 w1 w1.heap.size (some ⟨g, 0, none⟩) l := by
  subst hn
  obtain ⟨g, cap, rfl, h1, h2⟩ := h.form h0
  obtain ⟨A2, c2, hv2, h3, h4, h5⟩ := h.ints
  injection hv2 with e1 _ e3
  subst e1 e3
  exact ⟨g, cap, rfl, h1, h2, h3, h4, h5⟩
theorem len6 (k : Int) (p : List Int) : ([90, 165, 1, k, 0, (p.length : Int)] ++ p).length = p.length + 6 := by simp
set_option maxRecDepth 100000 in
theorem rencode_any (k : Int) (A : Option Addr) (c : Nat) (p : List Int) (w : World) (hs : Ints .u8 w w.heap.size A p) (hby : Byte p) (hl : p.length ≤ 9223372036854775807) :
    Calls Try.prog 12 #[.int .i64 k, .slice A p.length c] w fun e w' => Below w.heap.size w w' ∧
      ((encOk k p = true ∧ ∃ v, e = .returned (.tuple #[v, .int .i64 0]) ∧ Own .u8 5 w' w.heap.size v (encL k p)) ∨
       (encOk k p = false ∧ e = .returned (.tuple #[.slice none 0 0, .int .i64 (encE k)]))) := by
  go_enter Try.func12, Try.ntmps12
  by_cases k0 : k < 0
  · go_wp2
    go_ret2
    exact ⟨Below.refl _ _, .inr ⟨by simp [encOk]; omega, by rw [show encE k = 8 from if_pos (.inl k0)]; rfl⟩⟩
  by_cases k1 : 255 < k
  · go_wp2
    go_ret2
    exact ⟨Below.refl _ _, .inr ⟨by simp [encOk]; omega, by rw [show encE k = 8 from if_pos (.inr k1)]; rfl⟩⟩
  by_cases h2 : 200 < p.length
  · go_wp2
    go_ret2
    exact ⟨Below.refl _ _, .inr ⟨by simp [encOk]; omega, by rw [show encE k = 7 from if_neg (by omega)]; rfl⟩⟩
  have k0' : 0 ≤ k := by omega
  have k1' : k ≤ 255 := by omega
  have N1 := Lib.hid (show (p.length : Int) / 256 = 0 by omega)
  have HBB := Lib.hid (body_byte k0' k1' hby (by omega))
  have O6 := own_new (k := .u8) (e := 5) (w := w) (base := w.heap.size) #[.int .u8 90, .int .u8 165, .int .u8 1, .int .u8 k, .int .u8 ((p.length : Int) / 256), .int .u8 p.length] [90, 165, 1, k, (p.length : Int) / 256, p.length] rfl (Nat.le_refl _) (by simp)
  have b6 := lat_alloc (Below.refl w.heap.size w) (.cells #[.int .u8 90, .int .u8 165, .int .u8 1, .int .u8 k, .int .u8 ((p.length : Int) / 256), .int .u8 p.length] 5)
  have hs6 := (hs.below b6).more b6.size
  generalize hw6 : w.alloc (.cells #[.int .u8 90, .int .u8 165, .int .u8 1, .int .u8 k, .int .u8 ((p.length : Int) / 256), .int .u8 p.length] 5) = w6 at O6 b6 hs6
  have HW6 := Lib.hid hw6
  clear hw6
  go_wp2_with (first
    | (show wpList _ _ _ (Oper.mk (some 31) _ _ _ _ _ :: _) _ _; at_builtin; rw [HW6.out]; refine wpList_append_ints rfl (.tmp 29) (.tmp 30) _ rfl w.heap.size 5 .u8 1 Try.underlying22 byte_info _ [90, 165, 1, k, (p.length : Int) / 256, p.length] rfl O6 _ _ p p.length rfl rfl hs6 (by simp; omega) (by omega) b6.size ?_; intro v1 w1 O1 hg1 hat1; have b1 : Below w.heap.size w w1 := b6.grown hg1 b6.size (fun q hq => (O6.lt hq).1); rw [N1.out] at O1; clear hg1 hat1; obtain ⟨g1, c1, hvv, hg1b, hg1l, hc1, hc3, hI1⟩ := own_cut O1 (len6 k p) (by omega); subst hvv; have hc2 : ¬ c1 = 2 := by omega)
    | (go_at_call 20; have HP : Ints .u8 w1 w1.heap.size (some ⟨g1, 2, none⟩) (bodyL k p) := by { have := hI1.drop 2; rw [Nat.zero_add] at this; exact this }; have HS := rsum_any (some ⟨g1, 2, none⟩) (c1 - 2) (bodyL k p) w1 HP HBB.out (by rw [body_len]; omega); rw [body_len] at HS; refine HS.mono ?_; clear HS HP; rintro e w' ⟨rfl, rfl⟩; have u0 := un_lo (upd 0#32 (bodyL k p)); have u1 := un_hi (upd 0#32 (bodyL k p)))
    | (show wpList _ _ _ (Oper.mk (some 48) _ _ _ _ _ :: _) _ _; at_builtin; generalize hw4 : w1.alloc (.cells #[.int .u8 (un (upd 0#32 (bodyL k p)) / 16777216), .int .u8 (un (upd 0#32 (bodyL k p)) / 65536 % 256), .int .u8 (un (upd 0#32 (bodyL k p)) / 256 % 256), .int .u8 (un (upd 0#32 (bodyL k p)) % 256)] 5) = w4 at *; have O4 : Own .u8 5 w4 w.heap.size (.slice (some ⟨g1, 0, none⟩) (p.length + 6) c1) ([90, 165, 1, k, 0, (p.length : Int)] ++ p) := by { subst hw4; exact O1.alloc _ }; have b4 : Below w.heap.size w w4 := by { subst hw4; exact b1.alloc b1.size _ }; have S4 : Ints .u8 w4 w4.heap.size (some ⟨w1.heap.size, 0, none⟩) (four (upd 0#32 (bodyL k p))) := by { subst hw4; exact ints_new (fun i hi => by simp [four] at hi; rcases i with _ | _ | _ | _ | i <;> first | rfl | omega) }; clear hw4; refine wpList_append_ints rfl (.tmp 35) (.tmp 47) _ rfl w.heap.size 5 .u8 1 Try.underlying22 byte_info _ _ rfl O4 _ 4 (four (upd 0#32 (bodyL k p))) 4 rfl rfl S4 (by rw [len6]; simp [four]; omega) (by omega) b4.size ?_; intro v5 w5 O5 hg5 hat5; have b5 : Below w.heap.size w w5 := b4.grown hg5 b4.size (fun q hq => (O4.lt hq).1); clear hg5 hat5))
  go_ret2
  refine ⟨b5, .inl ⟨by simp [encOk]; omega, v5, rfl, ?_⟩⟩
  have e : encL k p = ([90, 165, 1, k, 0, (p.length : Int)] ++ p) ++ four (upd 0#32 (bodyL k p)) := by simp [encL, bodyL]
  rw [e]
  exact O5
end Go.Proofs.Ytahemaondkjpiaa

/-
  The law CrcLinear answers true for all arguments: its walk. Conditions: none.
-/
import Derived.Test.YtgndnamgglihlaaW
import Derived.Test.YtgndnamgglihlaaJ
namespace Go.Proofs.Ytgndnamgglihlaa
open Go.ChangeShapes Go.WideShapes Go.RowKit
set_option linter.unusedVariables false

def Apart (v u : Value) : Prop := ∀ b, v.ownBlock = some b → u.ownBlock ≠ some b
theorem Apart.symm {v u : Value} (h : Apart v u) : Apart u v := fun b hu hv => h b hv hu
theorem Own.aside {k : IntKind} {e : TypeId} {w w' : World} {base : Nat} {v u : Value} {m : List Int} (h : Own k e w base u m) (hg : w.grownBy w' v.ownBlock) (ha : Apart v u) : Own k e w' base u m :=
  h.block fun b hb => hg.block b (h.lt hb).2 (fun e => ha b e.symm hb)
theorem Own.apart {k : IntKind} {e : TypeId} {w : World} {base : Nat} {v v' u : Value} {m : List Int} (h : Own k e w base u m) (ha : Apart v u) (hv : v'.ownBlock = v.ownBlock ∨ v'.ownBlock = some w.heap.size) : Apart v' u := fun b hb hu => by
  rcases hv with hv | hv
  · exact ha b (hv ▸ hb) hu
  · have := (h.lt hu).2
    rw [hv] at hb
    injection hb with hb
    omega
theorem ints_one {k : IntKind} {w : World} {p : Int} {T : TypeId} : Ints k (w.alloc (.cells #[.int k p] T)) (w.alloc (.cells #[.int k p] T)).heap.size (some ⟨w.heap.size, 0, none⟩) [p] :=
  ints_new (fun i hi => by simp at hi; subst hi; rfl)
/-- What holds of the three lists behind k rounds. -/
def Lin (a : List Int) (k : Nat) (X Y Z : List Int) : Prop :=
  X.length = k ∧ Y.length = k ∧ Z.length = k ∧ Byte X ∧ Byte Y ∧ Byte Z ∧ reg (~~~ 0#32) Z = reg (~~~ 0#32) (a.take k) ^^^ reg (~~~ 0#32) X ^^^ reg (~~~ 0#32) Y
theorem lin_next {a : List Int} {k : Nat} {X Y Z : List Int} {p q : Int} (h : Lin a k X Y Z) (hk : k < a.length) (ha : Byte a) (hp : 0 ≤ p ∧ p ≤ 255) (hq : 0 ≤ q ∧ q ≤ 255) :
    Lin a (k + 1) (X ++ [p]) (Y ++ [q]) (Z ++ [bits .xor .u8 (bits .xor .u8 (at_ a k) p) q]) := by
  obtain ⟨l1, l2, l3, b1, b2, b3, e⟩ := h
  have hc := ha _ (at_mem hk)
  have one : ∀ x : Int, 0 ≤ x ∧ x ≤ 255 → Byte [x] := fun x hx n hn => by rw [List.mem_singleton] at hn; subst hn; exact hx
  have xb : ∀ x y : Int, 0 ≤ x ∧ x ≤ 255 → 0 ≤ y ∧ y ≤ 255 → (0 ≤ bits .xor .u8 x y ∧ bits .xor .u8 x y ≤ 255) ∧ byteOf (bits .xor .u8 x y) = byteOf x ^^^ byteOf y := fun x y hx hy => by
    rw [u8_xor _ _ hx.1 (by omega) hy.1 (by omega)]
    have hlt : x.toNat ^^^ y.toNat < 2 ^ 8 := Nat.xor_lt_two_pow (by omega) (by omega)
    refine ⟨⟨by omega, by omega⟩, ?_⟩
    apply BitVec.eq_of_toNat_eq
    unfold byteOf
    rw [BitVec.toNat_xor, BitVec.toNat_ofNat, BitVec.toNat_ofNat, BitVec.toNat_ofNat, Int.toNat_natCast, Nat.mod_eq_of_lt (by omega), Nat.mod_eq_of_lt (by omega), Nat.mod_eq_of_lt (by omega)]
  have h1 := xb _ _ hc hp
  have h2 := xb _ _ h1.1 hq
  refine ⟨by simp [l1], by simp [l2], by simp [l3], b1.app (one _ hp), b2.app (one _ hq), b3.app (one _ h2.1), ?_⟩
  rw [take_snoc a k hk, reg_snoc, reg_snoc, reg_snoc, reg_snoc, ← steps_xor, ← steps_xor, e, h2.2, h1.2]
  congr 1
  ac_rfl
theorem linear_any (A : Option Addr) (c : Nat) (a : List Int) (A' : Option Addr) (c' : Nat) (b : List Int) (n : Int) (w : World)
    (hs : Ints .u8 w w.heap.size A a) (hb : Byte a) (hl : a.length ≤ 9223372036854775807)
    (hs' : Ints .u8 w w.heap.size A' b) (hb' : Byte b) (hl' : b.length ≤ 9223372036854775807) (n0 : -9223372036854775808 ≤ n) (n1 : n ≤ 9223372036854775807) :
    Calls Try.prog 6 #[.slice A a.length c, .slice A' b.length c', .int .i64 n] w fun e w' => e = .returned (.bool true) ∧ Below w.heap.size w w' := by
  by_cases h1 : a.length ≤ 600
  · go_enter Try.func6, Try.ntmps6
    go_wp2_with fail
    refine (short_any _ _ _ _ hl).mono ?_; rintro e w' ⟨rfl, rfl⟩
    go_wp2_with fail
    go_loopw [7, 8, 9, 20] (fun x y z i wr => ∃ (k : Nat) (X Y Z : List Int), k ≤ a.length ∧ i = .int .i64 k ∧ Lin a k X Y Z ∧ Own .u8 5 wr w.heap.size x X ∧ Own .u8 5 wr w.heap.size y Y ∧ Own .u8 5 wr w.heap.size z Z ∧ Apart x y ∧ Apart x z ∧ Apart y z ∧ Below w.heap.size w wr) (fun _ _ _ i _ => a.length - (intOf i).toNat)
    case atStart => exact ⟨0, [], [], [], by omega, rfl, ⟨rfl, rfl, rfl, by unfold Byte; simp, by unfold Byte; simp, by unfold Byte; simp, by simp [reg]⟩, Own.nil_ _ _ _ _, Own.nil_ _ _ _ _, Own.nil_ _ _ _ _, fun b h => by simp [Value.ownBlock] at h, fun b h => by simp [Value.ownBlock] at h, fun b h => by simp [Value.ownBlock] at h, Below.refl _ _⟩
    case round =>
      obtain ⟨k, X, Y, Z, hk, rfl, hlin, hx, hy, hz, axy, axz, ayz, hbw⟩ := hrel
      by_cases hlt : k < a.length
      · obtain ⟨bb, off, rfl, hB, hc⟩ := hs (by omega)
        have hck := (hbw.cell (p := ⟨bb, off + k, none⟩) hB).trans (hc k hlt)
        have hbk := hb _ (at_mem hlt)
        clear hc
        have hq : 0 ≤ n / 2 ^ (k % 8) % 256 ∧ n / 2 ^ (k % 8) % 256 ≤ 255 := by omega
        have hcase : (∃ b2 off2, A' = some ⟨b2, off2, none⟩ ∧ wr.cell? ⟨b2, off2 + k, none⟩ = some (.int .u8 (at_ b k)) ∧ k < b.length ∧ 0 ≤ at_ b k ∧ at_ b k ≤ 255) ∨ ¬ k < b.length := by
          by_cases hkb : k < b.length
          · obtain ⟨b2, off2, hA, hB2, hc2⟩ := hs' (by omega)
            have hbk2 := hb' _ (at_mem hkb)
            exact .inl ⟨b2, off2, hA, (hbw.cell (p := ⟨b2, off2 + k, none⟩) hB2).trans (hc2 k hkb), hkb, hbk2.1, hbk2.2⟩
          · exact .inr hkb
        clear hs hs' hB
        rcases hcase with ⟨b2, off2, rfl, hck2, hkb, hp0, hp1⟩ | hkb
        all_goals
          go_wp2_with (first
            | (at_builtin; refine wpList_append_ints rfl (.tmp 39) (.tmp 41) _ rfl w.heap.size 5 .u8 1 Try.underlying22 byte_info _ X rfl (hx.alloc _) _ 1 [_] 1 rfl rfl ints_one (by have := hlin.1; simp; omega) (by omega) (by rw [heap_size]; have := hbw.size; omega) ?_; intro v1 w1 hx1 hg1 hat1; have hb1 : Below w.heap.size w w1 := (hbw.alloc hbw.size _).grown hg1 (hbw.alloc hbw.size _).size (fun k hk => (hx.lt hk).1); have hy1 := (hy.alloc _).aside hg1 axy; have hz1 := (hz.alloc _).aside hg1 axz; have axy1 := (hy.alloc _).apart axy hat1; have axz1 := (hz.alloc _).apart axz hat1; clear hx hy hz axy axz hg1 hat1)
            | (at_builtin; refine wpList_append_ints rfl (.tmp 43) (.tmp 45) _ rfl w.heap.size 5 .u8 1 Try.underlying22 byte_info _ Y rfl (hy1.alloc _) _ 1 [_] 1 rfl rfl ints_one (by have := hlin.2.1; simp; omega) (by omega) (by rw [heap_size]; have := hb1.size; omega) ?_; intro v2 w2 hy2 hg2 hat2; have hb2 : Below w.heap.size w w2 := (hb1.alloc hb1.size _).grown hg2 (hb1.alloc hb1.size _).size (fun k hk => (hy1.lt hk).1); have hx2 := (hx1.alloc _).aside hg2 axy1.symm; have hz2 := (hz1.alloc _).aside hg2 ayz; have axy2 := ((hx1.alloc _).apart axy1.symm hat2).symm; have ayz2 := (hz1.alloc _).apart ayz hat2; clear hx1 hy1 hz1 axy1 ayz hg2 hat2 hb1)
            | (at_builtin; refine wpList_append_ints rfl (.tmp 47) (.tmp 53) _ rfl w.heap.size 5 .u8 1 Try.underlying22 byte_info _ Z rfl (hz2.alloc _) _ 1 [_] 1 rfl rfl ints_one (by have := hlin.2.2.1; simp; omega) (by omega) (by rw [heap_size]; have := hb2.size; omega) ?_; intro v3 w3 hz3 hg3 hat3; have hb3 : Below w.heap.size w w3 := (hb2.alloc hb2.size _).grown hg3 (hb2.alloc hb2.size _).size (fun k hk => (hz2.lt hk).1); have hx3 := (hx2.alloc _).aside hg3 axz1.symm; have hy3 := (hy2.alloc _).aside hg3 ayz2.symm; have axz3 := ((hx2.alloc _).apart axz1.symm hat3).symm; have ayz3 := ((hy2.alloc _).apart ayz2.symm hat3).symm; clear hx2 hy2 hz2 axz1 ayz2 hg3 hat3 hb2))
          go_roundw
          case rel => exact ⟨k + 1, _, _, _, by omega, by go_num, lin_next hlin hlt hb (by omega) hq, hx3, hy3, hz3, axy2, axz3, ayz3, hb3⟩
          case measure => simp [intOf]; omega
      · obtain rfl : k = a.length := by omega
        obtain ⟨l1, l2, l3, b1, b2, b3, hreg⟩ := hlin
        rw [List.take_length] at hreg
        obtain ⟨Ax, cx, rfl, _, _, hsx⟩ := hx.ints
        obtain ⟨Ay, cy, rfl, _, _, hsy⟩ := hy.ints
        obtain ⟨Az, cz, rfl, _, _, hsz⟩ := hz.ints
        have e1 : (un (upd 0#32 Z) == bits .xor .u32 (bits .xor .u32 (un (upd 0#32 a)) (un (upd 0#32 X))) (un (upd 0#32 Y))) = true := by
          rw [un_xor, un_xor]
          have : upd 0#32 Z = upd 0#32 a ^^^ upd 0#32 X ^^^ upd 0#32 Y := by
            unfold upd
            rw [hreg]
            simp only [← BitVec.allOnes_xor]
            have h2 : ∀ p z : BitVec 32, p ^^^ (p ^^^ z) = z := fun p z => by rw [← BitVec.xor_assoc, BitVec.xor_self, BitVec.zero_xor]
            generalize BitVec.allOnes 32 = o
            generalize reg (o ^^^ 0#32) a = ra
            generalize reg (o ^^^ 0#32) X = rx
            generalize reg (o ^^^ 0#32) Y = ry
            rw [show o ^^^ ra ^^^ (o ^^^ rx) ^^^ (o ^^^ ry) = o ^^^ (o ^^^ (o ^^^ (ra ^^^ rx ^^^ ry))) by ac_rfl, h2]
          rw [this]; simp
        have hA := (hs.below hbw).more hbw.size
        have HL := Lib.hid l1
        have HL2 := Lib.hid l2
        have HL3 := Lib.hid l3
        clear hreg l1 l2 l3 hlt hs' hs hx hy hz axy axz ayz
        go_wp2_with fail
        refine (sum_any Az cz Z _ hsz b3 (by rw [HL3.out]; omega)).mono ?_; rintro e w' ⟨rfl, rfl⟩
        go_wp2_with fail
        refine (sum_any _ _ a _ hA hb hl).mono ?_; rintro e w' ⟨rfl, rfl⟩
        go_wp2_with fail
        refine (sum_any _ _ X _ hsx b1 (by rw [HL.out]; omega)).mono ?_; rintro e w' ⟨rfl, rfl⟩
        go_wp2_with fail
        refine (sum_any _ _ Y _ hsy b2 (by rw [HL2.out]; omega)).mono ?_; rintro e w' ⟨rfl, rfl⟩
        go_wp2_with fail
        refine (awake_any _).mono ?_; rintro e w' ⟨rfl, hw⟩
        go_wp2
        go_ret
        exact ⟨rfl, hbw.trans (hw.mono hbw.size)⟩
  · have h1' : decide (a.length ≤ 600) = false := by simpa using h1
    go_enter Try.func6, Try.ntmps6
    go_wp2_with (first
      | (go_at_call 8; refine (short_any _ _ _ _ (by assumption)).mono ?_; rintro e w' ⟨rfl, rfl⟩)
      | (go_at_call 9; refine (awake_any _).mono ?_; rintro e w' ⟨rfl, hw⟩))
    go_ret
    exact ⟨rfl, hw⟩
end Go.Proofs.Ytgndnamgglihlaa

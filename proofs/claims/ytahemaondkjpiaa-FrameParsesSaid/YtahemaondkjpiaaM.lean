/-
  Plain facts on the register of CRC-32 as a vector of 32 bits: one step, eight steps, a string of bytes. No Go function is spoken of here.
-/
import Derived.Test.YtahemaondkjpiaaRows
import Derived.WalkKit
namespace Go.Proofs.Ytahemaondkjpiaa

/-- The register's number as Go has it. -/
def un (v : BitVec 32) : Int := (v.toNat : Int)
theorem un_lo (v : BitVec 32) : 0 ≤ un v := Int.natCast_nonneg _
theorem un_hi (v : BitVec 32) : un v < 4294967296 := by have := v.isLt; unfold un; omega
theorem un_inj {a b : BitVec 32} (h : un a = un b) : a = b := BitVec.eq_of_toNat_eq (by unfold un at h; omega)
theorem un_of {n : Int} (h0 : 0 ≤ n) (h1 : n ≤ 4294967295) : ∃ v : BitVec 32, n = un v := by
  refine ⟨BitVec.ofNat 32 n.toNat, ?_⟩
  unfold un; rw [BitVec.toNat_ofNat, Nat.mod_eq_of_lt (by omega)]; omega
theorem un_xor (a b : BitVec 32) : bits .xor .u32 (un a) (un b) = un (a ^^^ b) := by
  unfold un; rw [u32_xor_nat _ _ a.isLt b.isLt, BitVec.toNat_xor]
theorem un_and1 (a : BitVec 32) : bits .and .u32 (un a) 1 = un (a &&& 1#32) := by
  unfold un; rw [show (1 : Int) = ((1 : Nat) : Int) from rfl, u32_and_nat _ _ a.isLt (by omega), BitVec.toNat_and]; rfl
theorem un_half (a : BitVec 32) : un a / (2 : Int) = un (a >>> 1) := by
  unfold un; rw [BitVec.toNat_ushiftRight, Nat.shiftRight_eq_div_pow]; omega

def poly : BitVec 32 := 0xedb88320#32
def step (r : BitVec 32) : BitVec 32 := if r &&& 1#32 = 1#32 then (r >>> 1) ^^^ poly else r >>> 1
def steps : Nat → BitVec 32 → BitVec 32
  | 0, r => r
  | n + 1, r => step (steps n r)
theorem step_yes (v : BitVec 32) (h : (bits .and .u32 (un v) 1 == 1) = true) : bits .xor .u32 (un v / (2 : Int)) 3988292384 = un (step v) := by
  rw [un_and1] at h
  have e : v &&& 1#32 = 1#32 := un_inj (by simp at h; exact h)
  rw [step, if_pos e, un_half, show (3988292384 : Int) = un poly from by decide +kernel, un_xor]
theorem step_no (v : BitVec 32) (h : (bits .and .u32 (un v) 1 == 1) = false) : un v / (2 : Int) = un (step v) := by
  rw [un_and1] at h
  have e : ¬ v &&& 1#32 = 1#32 := fun e => by rw [e] at h; exact absurd h (by decide +kernel)
  rw [step, if_neg e, un_half]
def byteOf (x : Int) : BitVec 32 := BitVec.ofNat 32 x.toNat
def reg (r : BitVec 32) (l : List Int) : BitVec 32 := l.foldl (fun r x => steps 8 (r ^^^ byteOf x)) r
def upd (r : BitVec 32) (l : List Int) : BitVec 32 := ~~~ reg (~~~ r) l
theorem reg_snoc (r : BitVec 32) (l : List Int) (x : Int) : reg r (l ++ [x]) = steps 8 (reg r l ^^^ byteOf x) := by simp [reg]
theorem upd_append (r : BitVec 32) (l m : List Int) : upd r (l ++ m) = upd (upd r l) m := by simp [upd, reg]
theorem upd_nil (r : BitVec 32) : upd r [] = r := by simp [upd, reg]
theorem un_byte {x : Int} (h0 : 0 ≤ x) (h1 : x ≤ 255) : x = un (byteOf x) := by
  unfold un byteOf; rw [BitVec.toNat_ofNat, Nat.mod_eq_of_lt (by omega)]; omega
theorem un_not (a : BitVec 32) : bits .xor .u32 IntKind.u32.max (un a) = un (~~~ a) := by
  rw [show IntKind.u32.max = un (BitVec.allOnes 32) from by decide +kernel, un_xor, BitVec.allOnes_xor]
theorem un_low (R : BitVec 32) (x : Int) (h0 : 0 ≤ x) (h1 : x ≤ 255) : bits .xor .u8 (un R % 256) x % 4294967296 = un ((R &&& 255#32) ^^^ byteOf x) := by
  have hR := R.isLt
  rw [u8_xor _ _ (by unfold un; omega) (by unfold un; omega) h0 (by omega)]
  have e1 : (un R % 256).toNat = (R &&& 255#32).toNat := by
    rw [BitVec.toNat_and, show (255#32).toNat = 2 ^ 8 - 1 from rfl, Nat.and_two_pow_sub_one_eq_mod]
    unfold un; omega
  have e2 : x.toNat = (byteOf x).toNat := by unfold byteOf; rw [BitVec.toNat_ofNat, Nat.mod_eq_of_lt (by omega)]
  rw [e1, e2, ← BitVec.toNat_xor]
  have := ((R &&& 255#32) ^^^ byteOf x).isLt
  unfold un; omega
theorem un_step (t : BitVec 32) : bits .xor .u32 (un t / 2) (3988292384 * bits .and .u32 (un t) 1 % 4294967296) = un (step t) := by
  rw [un_and1, un_half]
  by_cases h : t &&& 1#32 = 1#32
  · rw [h, step, if_pos h, show 3988292384 * un 1#32 % 4294967296 = un poly by decide +kernel, un_xor]
  · have h0 : t &&& 1#32 = 0#32 := by
      apply BitVec.eq_of_toNat_eq
      have e1 : (t &&& 1#32).toNat = t.toNat % 2 := by
        rw [BitVec.toNat_and, show (1#32).toNat = 2 ^ 1 - 1 from rfl, Nat.and_two_pow_sub_one_eq_mod]
      have e2 : (t &&& 1#32).toNat ≠ 1 := fun e => h (BitVec.eq_of_toNat_eq e)
      simp only [BitVec.toNat_ofNat]; omega
    rw [h0, step, if_neg h, show 3988292384 * un 0#32 % 4294967296 = un 0#32 by decide +kernel, un_xor, BitVec.xor_zero]
theorem un_byte8 (R : BitVec 32) : un R / (256 : Int) = un (R >>> 8) := by
  unfold un; rw [BitVec.toNat_ushiftRight, Nat.shiftRight_eq_div_pow]; omega
theorem bit0 (r : BitVec 32) : (r &&& 1#32 = 1#32) ↔ r.getLsbD 0 = true := by
  constructor
  · intro h
    have := congrArg (fun v => v.getLsbD 0) h
    simpa using this
  · intro h
    apply BitVec.eq_of_getLsbD_eq
    intro i hi
    rcases Nat.eq_zero_or_pos i with rfl | hp
    · simp [h]
    · simp [BitVec.getLsbD_one, show ¬ i = 0 by omega]
theorem step_eq (r : BitVec 32) : step r = (r >>> 1) ^^^ (if r.getLsbD 0 = true then poly else 0#32) := by
  unfold step
  by_cases h : r.getLsbD 0 = true
  · rw [if_pos ((bit0 r).2 h), if_pos h]
  · rw [if_neg (fun e => h ((bit0 r).1 e)), if_neg h, BitVec.xor_zero]
theorem step_xor (a b : BitVec 32) : step (a ^^^ b) = step a ^^^ step b := by
  rw [step_eq, step_eq, step_eq, BitVec.ushiftRight_xor_distrib, BitVec.getLsbD_xor]
  have h2 : ∀ p z : BitVec 32, p ^^^ (p ^^^ z) = z := fun p z => by rw [← BitVec.xor_assoc, BitVec.xor_self, BitVec.zero_xor]
  cases a.getLsbD 0 <;> cases b.getLsbD 0 <;> simp
  · ac_rfl
  · ac_rfl
  · rw [show (a >>> 1 ^^^ poly) ^^^ (b >>> 1 ^^^ poly) = poly ^^^ (poly ^^^ (a >>> 1 ^^^ b >>> 1)) by ac_rfl, h2]
theorem steps_xor (n : Nat) (a b : BitVec 32) : steps n (a ^^^ b) = steps n a ^^^ steps n b := by
  induction n with
  | zero => rfl
  | succ n ih => rw [steps, ih, step_xor]; rfl
theorem steps_high (n : Nat) (h : BitVec 32) (hz : ∀ i, i < n → h.getLsbD i = false) : steps n h = h >>> n := by
  induction n with
  | zero => simp [steps]
  | succ n ih =>
    rw [steps, ih (fun i hi => hz i (by omega)), step_eq]
    rw [show (h >>> n).getLsbD 0 = false by rw [BitVec.getLsbD_ushiftRight]; exact hz _ (by omega)]
    simp [BitVec.shiftRight_add]
theorem steps_split (R : BitVec 32) (x : BitVec 32) : steps 8 (R ^^^ x) = (R >>> 8) ^^^ steps 8 ((R &&& 255#32) ^^^ x) := by
  have e : R = ((R >>> 8) <<< 8) ^^^ (R &&& 255#32) := by
    apply BitVec.eq_of_getLsbD_eq
    intro i hi
    have h255 : (255#32).getLsbD i = decide (i < 8) := by
      have : ∀ i < 32, (255#32).getLsbD i = decide (i < 8) := by decide
      exact this i hi
    simp only [BitVec.getLsbD_xor, BitVec.getLsbD_shiftLeft, BitVec.getLsbD_ushiftRight, BitVec.getLsbD_and, h255]
    by_cases h8 : i < 8
    · simp [h8]
    · simp [h8, hi, show 8 + (i - 8) = i by omega]
  have h2 : steps 8 ((R >>> 8) <<< 8) = R >>> 8 := by
    rw [steps_high _ _ (fun i hi => by simp [BitVec.getLsbD_shiftLeft, hi])]
    apply BitVec.eq_of_getLsbD_eq
    intro i hi
    simp only [BitVec.getLsbD_shiftLeft, BitVec.getLsbD_ushiftRight]
    by_cases h : 8 + i < 32
    · simp [h]
    · simp [h]; rw [BitVec.getLsbD_of_ge R (8 + i) (by omega)]
  conv => lhs; rw [e, BitVec.xor_assoc, steps_xor, h2]
theorem un_next (v : BitVec 32) (l : List Int) (x : Int) :
    bits .xor .u32 IntKind.u32.max (bits .xor .u32 (bits .xor .u32 IntKind.u32.max (un (upd v l)) / 256) (un (steps 8 ((~~~ upd v l &&& 255#32) ^^^ byteOf x)))) = un (upd v (l ++ [x])) := by
  rw [un_not, un_byte8, un_xor, un_not, ← steps_split]
  unfold upd
  rw [BitVec.not_not, reg_snoc]
end Go.Proofs.Ytahemaondkjpiaa

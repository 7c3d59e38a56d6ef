/-
  Plain facts: a burst of at most 32 bits, somewhere in it one that is set, leaves the register of CRC-32 not zero.
-/
import Derived.Test.YtahemaondkjpiaaK
import Derived.Test.YtahemaondkjpiaaM
namespace Go.Proofs.Ytahemaondkjpiaa

def bitV (b : Bool) : BitVec 32 := if b then 1#32 else 0#32
/-- The register behind n bits. -/
def run (r : BitVec 32) (f : Nat → Bool) : Nat → BitVec 32
  | 0 => r
  | n + 1 => step (run r f n ^^^ bitV (f n))
theorem bitV_xor (a b : Bool) : bitV (a ^^ b) = bitV a ^^^ bitV b := by cases a <;> cases b <;> rfl
theorem run_xor (r s : BitVec 32) (f g : Nat → Bool) (n : Nat) : run r f n ^^^ run s g n = run (r ^^^ s) (fun t => f t ^^ g t) n := by
  induction n with
  | zero => rfl
  | succ n ih =>
    simp only [run]
    rw [← ih, bitV_xor, ← step_xor]
    congr 1
    ac_rfl
theorem run_congr (r : BitVec 32) (f g : Nat → Bool) (n : Nat) (h : ∀ t, t < n → f t = g t) : run r f n = run r g n := by
  induction n with
  | zero => rfl
  | succ n ih => simp only [run]; rw [ih (fun t ht => h t (by omega)), h n (by omega)]
theorem step_zero : step 0#32 = 0#32 := by decide
theorem step_inj (a : BitVec 32) (h : step a = 0#32) : a = 0#32 := by
  rw [step_eq] at h
  apply BitVec.eq_of_getLsbD_eq
  have key : a.getLsbD 0 = false := by
    cases h0 : a.getLsbD 0 with
    | false => rfl
    | true =>
      rw [h0] at h
      have := congrArg (fun v => v.getLsbD 31) h
      simp [poly] at this
  rw [key] at h
  intro i hi
  rcases Nat.eq_zero_or_pos i with rfl | hp
  · rw [key]; rfl
  · have := congrArg (fun v => v.getLsbD (i - 1)) h
    simp at this
    rw [show 1 + (i - 1) = i by omega] at this
    simpa using this
theorem run_keeps (r : BitVec 32) (f : Nat → Bool) (m : Nat) : ∀ n, (∀ t, m ≤ t → f t = false) → m ≤ n → run r f m ≠ 0#32 → run r f n ≠ 0#32 := by
  intro n hf hmn h0
  induction n with
  | zero => obtain rfl : m = 0 := by omega
            exact h0
  | succ n ih =>
    rcases Nat.lt_or_ge n m with hl | hl
    · obtain rfl : m = n + 1 := by omega
      exact h0
    · simp only [run]
      rw [hf n hl]
      intro e
      have := step_inj _ e
      simp [bitV] at this
      exact ih hl this
/-- The highest bit that is set is not far down. -/
theorem step_high (x : BitVec 32) (m : Nat) (hm : 1 ≤ m) (h31 : m ≤ 31) (h : 2 ^ (32 - m) ≤ x.toNat) (b : Bool) : 2 ^ (32 - (m + 1)) ≤ (step (x ^^^ bitV b)).toNat := by
  have e2 : 2 ^ (32 - m) = 2 * 2 ^ (32 - (m + 1)) := by rw [show 32 - m = (32 - (m + 1)) + 1 by omega, Nat.pow_succ]; omega
  have hy : (x ^^^ bitV b).toNat / 2 = x.toNat / 2 := by
    cases b with
    | false => simp [bitV]
    | true =>
      have : ((x ^^^ 1#32) >>> 1) = x >>> 1 := by
        rw [BitVec.ushiftRight_xor_distrib]
        rw [show (1#32 >>> 1) = 0#32 by decide, BitVec.xor_zero]
      have h3 := congrArg BitVec.toNat this
      simpa [BitVec.toNat_ushiftRight, Nat.shiftRight_eq_div_pow, bitV] using h3
  generalize x ^^^ bitV b = y at hy
  have hyl : 2 ^ (32 - (m + 1)) ≤ y.toNat / 2 := by rw [hy]; omega
  rw [step_eq]
  cases y.getLsbD 0 with
  | false => simpa [BitVec.toNat_ushiftRight, Nat.shiftRight_eq_div_pow] using hyl
  | true =>
    have hb : ((y >>> 1) ^^^ poly).getLsbD 31 = true := by simp [poly]
    have h4 : 2 ^ 31 ≤ ((y >>> 1) ^^^ poly).toNat := by
      rw [BitVec.getLsbD] at hb
      exact Nat.ge_two_pow_of_testBit hb
    have h5 : 2 ^ (32 - (m + 1)) ≤ 2 ^ 31 := Nat.pow_le_pow_right (by omega) (by omega)
    simpa using Nat.le_trans h5 h4
theorem run_burst (f : Nat → Bool) (a n : Nat) (hf : ∀ t, (t < a ∨ a + 32 ≤ t) → f t = false) (t0 : Nat) (ht : t0 < n) (hs : f t0 = true) : run 0#32 f n ≠ 0#32 := by
  -- the first bit that is set
  have first : ∃ t, t ≤ t0 ∧ f t = true ∧ ∀ s, s < t → f s = false := by
    clear ht
    induction t0 using Nat.strongRecOn with
    | _ t0 ih =>
      by_cases h : ∃ s, s < t0 ∧ f s = true
      · obtain ⟨s, hs1, hs2⟩ := h
        obtain ⟨t, h1, h2, h3⟩ := ih s hs1 hs2
        exact ⟨t, by omega, h2, h3⟩
      · exact ⟨t0, Nat.le_refl _, hs, fun s hs' => by
          cases h' : f s with
          | false => rfl
          | true => exact absurd ⟨s, hs', h'⟩ h⟩
  obtain ⟨t, hle, hft, hbefore⟩ := first
  have z : ∀ s, s ≤ t → run 0#32 f s = 0#32 := by
    intro s
    induction s with
    | zero => intro _; rfl
    | succ s ih =>
      intro hs'
      simp only [run]
      rw [ih (by omega), hbefore s (by omega)]
      exact step_zero
  have hi : ∀ m, 1 ≤ m → m ≤ 32 → 2 ^ (32 - m) ≤ (run 0#32 f (t + m)).toNat := by
    intro m h1
    induction m with
    | zero => omega
    | succ m ih =>
      intro h32
      rcases Nat.eq_zero_or_pos m with rfl | hp
      · show _ ≤ (step (run 0#32 f t ^^^ bitV (f t))).toNat
        rw [z t (Nat.le_refl _), hft]
        decide
      · exact step_high _ m hp (by omega) (ih hp (by omega)) _
  have hta : a ≤ t := by
    rcases Nat.lt_or_ge t a with h | h
    · rw [hf t (.inl h)] at hft; cases hft
    · exact h
  have nz : ∀ m, 1 ≤ m → m ≤ 32 → run 0#32 f (t + m) ≠ 0#32 := fun m h1 h2 e => by
    have := hi m h1 h2
    rw [e] at this
    have h3 : 0 < 2 ^ (32 - m) := Nat.pow_pos (by omega)
    simp at this
  rcases Nat.lt_or_ge (t + 32) n with h | h
  · exact run_keeps _ _ (t + 32) n (fun s hs' => hf s (.inr (by omega))) (by omega) (nz 32 (by omega) (by omega))
  · have := nz (n - t) (by omega) (by omega)
    rwa [show t + (n - t) = n by omega] at this

theorem run_add (r : BitVec 32) (f : Nat → Bool) (m n : Nat) : run r f (m + n) = run (run r f m) (fun j => f (m + j)) n := by
  induction n with
  | zero => rfl
  | succ n ih => rw [Nat.add_succ]; simp only [run]; rw [ih]
theorem steps_bits (n : Nat) (hn : n ≤ 31) : ∀ (R X : BitVec 32), (∀ j, n ≤ j → X.getLsbD j = false) → steps n (R ^^^ X) = run R (fun j => X.getLsbD j) n := by
  induction n with
  | zero =>
    intro R X h
    have : X = 0#32 := by apply BitVec.eq_of_getLsbD_eq; intro i _; simpa using h i (by omega)
    simp [steps, run, this]
  | succ n ih =>
    intro R X h
    have hB : ∀ j, (bitV (X.getLsbD n) <<< n).getLsbD j = (decide (j = n) && X.getLsbD n) := by
      intro j
      rw [BitVec.getLsbD_shiftLeft]
      by_cases e : j = n
      · subst e; cases X.getLsbD j <;> simp [bitV, show j < 32 by omega]
      · by_cases hl : j < n
        · simp [hl, e]
        · cases X.getLsbD n with
          | false => simp [bitV]
          | true => simp [bitV, e, hl, BitVec.getLsbD_one]; omega
    have e : X = (X ^^^ (bitV (X.getLsbD n) <<< n)) ^^^ (bitV (X.getLsbD n) <<< n) := by rw [BitVec.xor_assoc, BitVec.xor_self, BitVec.xor_zero]
    have hlow : ∀ j, (X ^^^ (bitV (X.getLsbD n) <<< n)).getLsbD j = (decide (j < n) && X.getLsbD j) := by
      intro j
      rw [BitVec.getLsbD_xor, hB]
      by_cases h1 : j = n
      · subst h1; simp
      · by_cases h2 : j < n
        · simp [h1, h2]
        · simp [h1, h2, h j (by omega)]
    have h1 : steps n (bitV (X.getLsbD n) <<< n) = bitV (X.getLsbD n) := by
      rw [steps_high _ _ (fun i hi => by rw [hB]; simp [show ¬ i = n by omega])]
      apply BitVec.eq_of_getLsbD_eq
      intro i hi
      rw [BitVec.getLsbD_ushiftRight, hB]
      cases X.getLsbD n with
      | false => simp [bitV]
      | true => simp [bitV, BitVec.getLsbD_one]
    conv => lhs; rw [steps, e, ← BitVec.xor_assoc, steps_xor, h1, ih (by omega) R _ (fun j hj => by rw [hlow]; simp [show ¬ j < n by omega])]
    simp only [run]
    rw [run_congr R _ (fun j => X.getLsbD j) n (fun t ht => by rw [hlow]; simp [ht])]

/-- The t-th bit of a string of bytes, the low bits of each byte first. -/
def bitsOf (l : List Int) (t : Nat) : Bool := (at_ l (t / 8)).toNat.testBit (t % 8)
theorem reg_run (r : BitVec 32) (l : List Int) (hb : Byte l) : reg r l = run r (bitsOf l) (8 * l.length) := by
  have key : ∀ k, k ≤ l.length → reg r (l.take k) = run r (bitsOf l) (8 * k) := by
    intro k
    induction k with
    | zero => intro _; rfl
    | succ k ih =>
      intro hk
      have hx := hb _ (at_mem (show k < l.length by omega))
      have hX : ∀ j, (byteOf (at_ l k)).getLsbD j = (decide (j < 8) && (at_ l k).toNat.testBit j) := by
        intro j
        have hlt : (at_ l k).toNat < 2 ^ 8 := by omega
        unfold byteOf
        rw [BitVec.getLsbD_ofNat]
        by_cases h8 : j < 8
        · simp [h8, show j < 32 by omega]
        · rw [Nat.testBit_lt_two_pow (Nat.lt_of_lt_of_le hlt (Nat.pow_le_pow_right (by omega) (by omega)))]; simp
      rw [take_snoc l k (by omega), reg_snoc, ih (by omega), steps_bits 8 (by omega) _ _ (fun j hj => by rw [hX]; simp [show ¬ j < 8 by omega]), show 8 * (k + 1) = 8 * k + 8 by omega, run_add]
      exact run_congr _ _ _ 8 (fun t ht => by
        rw [hX]
        simp [bitsOf, ht, show (8 * k + t) / 8 = k by omega, show (8 * k + t) % 8 = t by omega])
  have := key l.length (Nat.le_refl _)
  rwa [List.take_length] at this

/-- The bits that i rounds of the law turn. -/
def turned (change a i t : Nat) : Bool := decide (a ≤ t ∧ t < a + i) && change.testBit (t - a)
theorem burst_end (b c : List Int) (hb : Byte b) (hc : Byte c) (hl : c.length = b.length) (change a : Nat)
    (h : ∀ t, t < 8 * b.length → bitsOf c t = (bitsOf b t ^^ turned change a 32 t)) :
    (upd 0#32 b ≠ upd 0#32 c) ↔ ∃ t, t < 8 * b.length ∧ turned change a 32 t = true := by
  have e : upd 0#32 b = upd 0#32 c ↔ run 0#32 (turned change a 32) (8 * b.length) = 0#32 := by
    have h1 : run 0#32 (turned change a 32) (8 * b.length) = reg (~~~ 0#32) b ^^^ reg (~~~ 0#32) c := by
      rw [reg_run _ b hb, reg_run _ c hc, hl, run_xor, BitVec.xor_self]
      exact run_congr _ _ _ _ (fun t ht => by
        rw [h t ht]; cases bitsOf b t <;> cases turned change a 32 t <;> rfl)
    rw [h1]
    unfold upd
    constructor
    · intro he
      have := congrArg (fun v => ~~~ v) he
      simp only [BitVec.not_not] at this
      rw [this, BitVec.xor_self]
    · intro he
      have : reg (~~~ 0#32) b = reg (~~~ 0#32) c := by
        have h2 := congrArg (fun v => v ^^^ reg (~~~ 0#32) c) he
        simpa [BitVec.xor_assoc] using h2
      rw [this]
  constructor
  · intro hne
    by_cases hx : ∃ t, t < 8 * b.length ∧ turned change a 32 t = true
    · exact hx
    · exfalso
      apply hne
      rw [e, run_congr 0#32 _ (fun _ => false) _ (fun t ht => by
        cases ht' : turned change a 32 t with
        | false => rfl
        | true => exact absurd ⟨t, ht, ht'⟩ hx)]
      generalize 8 * b.length = n
      induction n with
      | zero => rfl
      | succ n ih => simp only [run, ih]; exact step_zero
  · rintro ⟨t, ht, h1⟩ he
    rw [e] at he
    exact run_burst _ a _ (fun s hs => by unfold turned; simp; omega) t ht h1 he
theorem at_set (l : List Int) (i j : Nat) (x : Int) (hi : i < l.length) : at_ (l.set i x) j = if j = i then x else at_ l j := by
  unfold at_
  rw [List.getD_eq_getElem?_getD, List.getElem?_set]
  by_cases h : i = j
  · subst h; simp [hi]
  · simp [h, show ¬ j = i by omega]
theorem bits_flip (l : List Int) (hb : Byte l) (s t : Nat) (hs : s < 8 * l.length) (x : Int) (hx : x = bits .xor .u8 (at_ l (s / 8)) ((2 ^ (s % 8) : Nat) : Int)) :
    bitsOf (l.set (s / 8) x) t = (bitsOf l t ^^ decide (t = s)) := by
  have hc := hb _ (at_mem (show s / 8 < l.length by omega))
  have h2 : 2 ^ (s % 8) < 2 ^ 8 := Nat.pow_lt_pow_right (by omega) (by omega)
  rw [u8_xor _ _ hc.1 (by omega) (Int.natCast_nonneg _) (by omega)] at hx
  unfold bitsOf
  rw [at_set _ _ _ _ (by omega)]
  by_cases h : t / 8 = s / 8
  · rw [if_pos h, hx, h, Int.toNat_natCast, Int.toNat_natCast, Nat.testBit_xor, Nat.testBit_two_pow]
    congr 1
    simp; omega
  · rw [if_neg h]
    have : ¬ t = s := fun e => h (by rw [e])
    simp [this]
theorem flip_byte (l : List Int) (hb : Byte l) (s : Nat) (hs : s < 8 * l.length) : Byte (l.set (s / 8) (bits .xor .u8 (at_ l (s / 8)) ((2 ^ (s % 8) : Nat) : Int))) := by
  have hc := hb _ (at_mem (show s / 8 < l.length by omega))
  have h2 : 2 ^ (s % 8) < 2 ^ 8 := Nat.pow_lt_pow_right (by omega) (by omega)
  rw [u8_xor _ _ hc.1 (by omega) (Int.natCast_nonneg _) (by omega)]
  have hlt : (at_ l (s / 8)).toNat ^^^ ((2 ^ (s % 8) : Nat) : Int).toNat < 2 ^ 8 := Nat.xor_lt_two_pow (by omega) (by rw [Int.toNat_natCast]; exact h2)
  intro n hn
  rcases List.mem_or_eq_of_mem_set hn with h | h
  · exact hb n h
  · subst h; omega
theorem turned_next (change a i t : Nat) : turned change a (i + 1) t = (turned change a i t ^^ (decide (t = a + i) && change.testBit i)) := by
  unfold turned
  by_cases h : t = a + i
  · subst h; simp
  · by_cases h2 : a ≤ t ∧ t < a + i
    · simp [h, h2, show t < a + (i + 1) by omega]
    · simp [h, h2]; omega
end Go.Proofs.Ytahemaondkjpiaa

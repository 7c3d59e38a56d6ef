/-
  What the program's ring asks of a control: its set, whether a phase is to leave, whether a group has been served, whether a phase can begin. Conditions: as many lights and rows as phases.
-/
import Derived.Test.YtkpbkahmbbkcdaaCd
import Derived.Test.YtkpbkahmbbkcdaaIc
import Derived.BigQuiet
namespace Go.Proofs.Ytkpbkahmbbkcdaa
open Go.ChangeShapes Go.WideShapes Go.RowKit
set_option linter.unusedVariables false

theorem or_pow {a k : Nat} (ha : a < 2 ^ k) (hk : k ≤ 60) : bits .or .i64 (a : Int) ((2 ^ k : Nat) : Int) = ((a + 2 ^ k : Nat) : Int) := by
  have h1 := pow_60 hk
  have e : (2 : Nat) ^ 62 = 4611686018427387904 := by decide
  rw [(bits_nat .i64 62 (by decide) (fun n h0 h1 => by rw [IntKind.wrap_i64]; omega) a (2 ^ k) (by omega) (by omega)).2]
  have := Nat.two_pow_add_eq_or_of_lt ha 1
  rw [Nat.mul_one] at this
  rw [Nat.or_comm, ← this, Nat.add_comm]
set_option maxHeartbeats 1000000 in
theorem pset_any (D : Option Addr) (vX : Value) (cL n : Nat) (L : List (Int × Int)) (g wt : Int) (w : World) (hLn : L.length = n) (hL : Prs w w.heap.size D L) (h8 : n ≤ 60) :
    Calls Try.prog 19 #[.agg #[.slice D n cL, .int .i64 g, vX, .int .i64 wt]] w fun e w' => e = .returned (.int .i64 (setV L n : Nat)) ∧ Below w.heap.size w w' := by
  have HL := Lib.hid hLn
  clear hLn
  have bW := lat_alloc (Below.refl w.heap.size w) (.cells #[.slice D n cL, .int .i64 g, vX, .int .i64 wt] 25)
  have BC := Blk.new (w := w) (t := 25) (cs := #[.slice D n cL, .int .i64 g, vX, .int .i64 wt])
  have hL1 := hL.grow bW
  go_enter Try.func19, Try.ntmps19
  have c0 := BC.at 0 rfl
  go_wp2_with fail
  generalize w.alloc (.cells #[.slice D n cL, .int .i64 g, vX, .int .i64 wt] 25) = W at *
  clear c0
  go_loopw [3, 9] (fun s3 v wr => ∃ i : Nat, i ≤ n ∧ s3 = .int .i64 (setV L i : Nat) ∧ v = .int .i64 i ∧ Below W.heap.size W wr) (fun _ v _ => n - (intOf v).toNat)
  case atStart => exact ⟨0, by omega, rfl, rfl, Below.refl _ _⟩
  case round =>
    obtain ⟨i, hi, rfl, rfl, hbr⟩ := hrel
    by_cases hlt : i < n
    · have hltZ : (i : Int) < n := by omega
      obtain ⟨b2, off2, rfl, hbB2, l0, l1⟩ := (hL1.grow hbr).at (i := i) (by have := HL.out; omega)
      have B8 := Blk.new (w := wr) (t := 45) (cs := #[.int .i64 (prAt L i).1, .int .i64 (prAt L i).2])
      have bX := lat_alloc hbr (.cells #[.int .i64 (prAt L i).1, .int .i64 (prAt L i).2] 45)
      have k0 := B8.at 0 rfl
      have HD := Lib.hid (show lmp L i = (prAt L i).1 from rfl)
      have HS := Lib.hid (show setV L (i + 1) = setV L i + if lmp L i ≠ 0 then 2 ^ i else 0 by rw [setV])
      have hsl := setV_lt L i
      have hpw := pow_60 (k := i) (by omega)
      have e60 : (2 : Nat) ^ 60 = 1152921504606846976 := by decide
      have hwp := wrap_pow (k := i) (by omega)
      clear B8
      generalize setV L i = s at *
      generalize prAt L i = y at *
      by_cases h2 : y.1 = 0
      · have z2 : (y.1 != 0) = false := by simpa using h2
        have H2 := Lib.hid h2
        clear h2 hwp hsl hpw e60
        go_wp2
        go_roundw
        case rel => exact ⟨i + 1, hlt, by rw [HS.out, if_neg (by rw [HD.out, H2.out]; simp)]; rfl, by go_num, bX⟩
        case measure => simp [intOf]; omega
      · have z2 : (y.1 != 0) = true := by simpa using h2
        have H2 := Lib.hid h2
        clear h2
        have HS2 := Lib.hid (show setV L (i + 1) = s + 2 ^ i by rw [HS.out, if_pos (by rw [HD.out]; exact H2.out)])
        obtain ⟨m, hm⟩ : ∃ m : Nat, 2 ^ i = m := ⟨_, rfl⟩
        rw [hm] at hwp hsl hpw HS2
        have hor : bits .or .i64 (s : Int) (m : Int) = ((s + m : Nat) : Int) := by rw [← hm]; exact or_pow (by rw [hm]; exact hsl) (by omega)
        clear hm HS
        have hm2 : s < 1152921504606846976 ∧ m ≤ 1152921504606846976 := by omega
        clear hsl hpw e60
        go_wp2
        go_roundw
        case rel => exact ⟨i + 1, hlt, by rw [HS2.out]; go_num, by go_num, bX⟩
        case measure => simp [intOf]; omega
    · have hltZ : ¬ (i : Int) < n := by omega
      have he : i = n := by omega
      subst he
      go_wp2
      go_ret
      exact ⟨rfl, bW.trans (hbr.mono bW.size)⟩

theorem pcon_none (C : List Int) (A : Option Addr) (cA m p : Nat) (w : World) (hm : C.length = m) (hs : Ints .i64 w w.heap.size A C) (hl : m ≤ 60) : Calls Try.prog 66 #[.slice A m cA, .int .i64 p, .int .i64 (-1)] w fun e w' => e = .returned (.bool false) ∧ w = w' := by
  have := conflict_any A C cA w.heap.size p (-1) w hs (by omega)
  rw [hm] at this
  have e2 : isRowB C (-1) = false := by unfold isRowB; simp
  have e : conB C p (-1) = false := by unfold conB; rw [e2]; simp
  rw [e] at this
  exact this
theorem isPhase_any (A B : Option Addr) (n cP m d : Nat) (st q : Int) (w : World) :
    Calls Try.prog 46 #[.agg #[.slice A n cP, .slice B m d, .int .i64 st], .int .i64 q] w fun e w' => e = .returned (.bool (decide (0 ≤ q ∧ q < n))) ∧ Below w.heap.size w w' := by
  have bW := lat_alloc (Below.refl w.heap.size w) (.cells #[.slice A n cP, .slice B m d, .int .i64 st] 30)
  go_enter Try.func46, Try.ntmps46
  by_cases h1 : 0 ≤ q
  · by_cases h2 : q < n
    · go_wp2
      go_ret
      exact ⟨ret_b (by simp [h1, h2]), bW⟩
    · go_wp2
      go_ret
      exact ⟨ret_b (by simp [h2]), bW⟩
  · have h1d : decide (0 ≤ q) = false := by simpa using h1
    go_wp2
    go_ret
    exact ⟨ret_b (by simp [h1]), bW⟩
theorem isPhase_c {A B : Option Addr} {n cP m d : Nat} {st q : Int} (w : World) {r : Bool} (h : decide (0 ≤ q ∧ q < (n : Int)) = r) :
    Calls Try.prog 46 #[.agg #[.slice A n cP, .slice B m d, .int .i64 st], .int .i64 q] w fun e w' => e = .returned (.bool r) ∧ Below w.heap.size w w' := by subst h; exact isPhase_any A B n cP m d st q w
set_option maxHeartbeats 2000000 in
theorem leaves_any (B : Option Addr) (b off cP d n : Nat) (P : List Ph) (C : List Int) (L : List (Int × Int)) (st t : Int) (p : Nat) (w : World) (hb : b < w.heap.size) (hph : ∀ i, i < n → PhHere w b (off + i * 8) (phAt P i)) (hCn : C.length = n) (hC : Ints .i64 w w.heap.size B C) (hl : n ≤ 60) (hp : p < n) (ht : t = -1 ∨ (0 ≤ t ∧ t < n)) (htk : 0 ≤ tck L p ∧ tck L p ≤ 1073741824) :
    Calls Try.prog 48 #[.agg #[.slice (some ⟨b, off, none⟩) n cP, .slice B n d, .int .i64 st], .int .i64 p, .agg #[.int .i64 (lmp L p), .int .i64 (tck L p)], .int .i64 t] w fun e w' => e = .returned (.bool (leaveB P C L n t p)) ∧ Below w.heap.size w w' := by
  have bW := lat_alloc (lat_alloc (Below.refl w.heap.size w) (.cells #[.slice (some ⟨b, off, none⟩) n cP, .slice B n d, .int .i64 st] 30)) (.cells #[.int .i64 (lmp L p), .int .i64 (tck L p)] 45)
  obtain ⟨x0, x1, x2, x3, x4, x5, x6, x7⟩ := (hph p hp).block (bW.block b hb)
  clear x0 x1 x2 x4 x5 x6 x7
  have hpZ : (p : Int) < n := by omega
  have hC1 := hC.grow bW
  go_enter Try.func48, Try.ntmps48
  by_cases h1 : (p : Int) = t
  · have H := Lib.hid (show leaveB P C L n t p = false by unfold leaveB; rw [if_pos (by omega), decide_eq_true h1]; rfl)
    clear hC1 hC hph
    subst h1
    go_wp2
    go_ret
    exact ⟨ret_b H.out.symm, bW⟩
  · have z1 : ((p : Int) == t) = false := by simpa using h1
    by_cases h2 : (phAt P p).mx ≤ tck L p + 1
    · have H := Lib.hid (show leaveB P C L n t p = true by unfold leaveB; split <;> simp [h1, h2])
      go_wp2
      go_quiet (fail)
      go_wp2
      go_ret
      exact ⟨ret_b H.out.symm, below_drewN bW⟩
    · have z2 : decide ((phAt P p).mx ≤ tck L p + 1) = false := by simpa using h2
      by_cases h3 : 0 ≤ t
      · obtain ⟨T, rfl⟩ := Int.eq_ofNat_of_zero_le h3
        have hT : T < n := by omega
        have H := Lib.hid (show leaveB P C L n (T : Int) p = hasB (at_ C p) T by unfold leaveB; rw [if_pos (by omega)]; simp [h1, h2])
        have CA := fun k => pcon_c C B d n p T (World.drewN ((w.alloc (.cells #[.slice (some ⟨b, off, none⟩) n cP, .slice B n d, .int .i64 st] 30)).alloc (.cells #[.int .i64 (lmp L p), .int .i64 (tck L p)] 45)) k) hCn (hC1.grow (below_drewN (Below.refl _ _))) hl hp hT rfl
        go_wp2
        go_quiet ((go_at_call 66; exact Calls.quiet_of_same ((CA _).mono fun _ _ h => ⟨h.1, h.2.symm⟩)))
        go_wp2
        go_ret
        exact ⟨ret_b H.out.symm, below_drewN bW⟩
      · obtain rfl : t = -1 := by omega
        have H := Lib.hid (show leaveB P C L n (-1) p = false by unfold leaveB; rw [if_neg (by omega)]; simpa using h2)
        have CA := fun k => pcon_none C B d n p (World.drewN ((w.alloc (.cells #[.slice (some ⟨b, off, none⟩) n cP, .slice B n d, .int .i64 st] 30)).alloc (.cells #[.int .i64 (lmp L p), .int .i64 (tck L p)] 45)) k) hCn (hC1.grow (below_drewN (Below.refl _ _))) hl
        go_wp2
        go_quiet ((go_at_call 66; exact Calls.quiet_of_same ((CA _).mono fun _ _ h => ⟨h.1, h.2.symm⟩)))
        go_wp2
        go_ret
        exact ⟨ret_b H.out.symm, below_drewN bW⟩
set_option maxHeartbeats 2000000 in
theorem finished_any (D E : Option Addr) (cL cX n : Nat) (L : List (Int × Int)) (nx : List Int) (g wt : Int) (w : World) (hLn : L.length = n) (hL : Prs w w.heap.size D L) (h8 : n ≤ 60) (hXn : nx.length = 2) (hX : Ints .i64 w w.heap.size E nx) (hge : ∀ r : Nat, r < 2 → -1 ≤ at_ nx r) :
    Calls Try.prog 49 #[.agg #[.slice D n cL, .int .i64 g, .slice E 2 cX, .int .i64 wt]] w fun e w' => e = .returned (.bool (decide (setV L n = 0 ∧ at_ nx 0 < 0 ∧ at_ nx 1 < 0))) ∧ Below w.heap.size w w' := by
  have bW := lat_alloc (Below.refl w.heap.size w) (.cells #[.slice D n cL, .int .i64 g, .slice E 2 cX, .int .i64 wt] 25)
  have BC := Blk.new (w := w) (t := 25) (cs := #[.slice D n cL, .int .i64 g, .slice E 2 cX, .int .i64 wt])
  have hL1 := hL.grow bW
  have hX1 := hX.grow bW
  have HX := Lib.hid hXn
  clear hXn hL hX
  go_enter Try.func49, Try.ntmps49
  go_wp2_with fail
  generalize w.alloc (.cells #[.slice D n cL, .int .i64 g, .slice E 2 cX, .int .i64 wt] 25) = W at *
  go_loopw [8] (fun v wr => ∃ i : Nat, i ≤ 2 ∧ v = .int .i64 i ∧ Below W.heap.size W wr ∧ ∀ r : Nat, r < i → at_ nx r = -1) (fun v _ => 2 - (intOf v).toNat)
  case atStart => exact ⟨0, by omega, rfl, Below.refl _ _, fun r hr => absurd hr (by omega)⟩
  case round =>
    obtain ⟨i, hi, rfl, hbr, hok⟩ := hrel
    by_cases hlt : i < 2
    · have hltZ : (i : Int) < 2 := by omega
      obtain ⟨b2, off2, rfl, hbB2, l0⟩ := (hX1.grow hbr) (by rw [HX.out]; omega)
      have l0 := l0 i (by rw [HX.out]; omega)
      have hgi := hge i hlt
      have HI := Lib.hid (show at_ nx i = at_ nx i from rfl)
      obtain ⟨q, hq⟩ : ∃ q, at_ nx i = q := ⟨_, rfl⟩
      rw [hq] at l0 hgi
      have HQ := Lib.hid hq
      clear hq HI
      by_cases h1 : q = -1
      · subst h1
        go_wp2
        go_roundw
        case rel => exact ⟨i + 1, hlt, by go_num, hbr, fun r hr => by by_cases e : r = i; · subst e; exact HQ.out
                                                                      · exact hok r (by omega)⟩
        case measure => simp [intOf]; omega
      · have z1 : (q != -1) = true := by simpa using h1
        have HF := Lib.hid (show decide (setV L n = 0 ∧ at_ nx 0 < 0 ∧ at_ nx 1 < 0) = false by
          rw [decide_eq_false]
          rintro ⟨_, h0, h1'⟩
          rcases (by omega : i = 0 ∨ i = 1) with rfl | rfl
          · rw [HQ.out] at h0; omega
          · rw [HQ.out] at h1'; omega)
        go_wp2
        go_ret
        exact ⟨ret_b HF.out.symm, bW.trans (hbr.mono bW.size)⟩
    · have hltZ : ¬ (i : Int) < 2 := by omega
      have he : i = 2 := by omega
      subst he
      have k0 := hok 0 (by omega)
      have k1 := hok 1 (by omega)
      have HF := Lib.hid (show decide (setV L n = 0 ∧ at_ nx 0 < 0 ∧ at_ nx 1 < 0) = ((((setV L n : Nat) : Int) == 0)) by
        rw [k0, k1]
        by_cases h : setV L n = 0 <;> simp [h])
      clear hok k0 k1 hge
      have BCr := BC.below hbr
      have c0 := BCr.at 0 rfl
      have c1 := BCr.at 1 rfl
      have c2 := BCr.at 2 rfl
      have c3 := BCr.at 3 rfl
      clear BCr
      go_wp2_with fail
      refine (pset_any D (.slice E 2 cX) cL n L g wt wr hLn (hL1.grow hbr) h8).mono ?_
      rintro e w2 ⟨rfl, hb2⟩
      go_wp2
      go_ret
      exact ⟨ret_b HF.out.symm, (bW.trans (hbr.mono bW.size)).trans (hb2.mono (bW.trans (hbr.mono bW.size)).size)⟩
set_option maxHeartbeats 2000000 in
theorem canBegin_any (A B D : Option Addr) (vX : Value) (cP d cL n q : Nat) (C : List Int) (L : List (Int × Int)) (st g wt : Int) (w : World) (hCn : C.length = n) (hC : Ints .i64 w w.heap.size B C) (hLn : L.length = n) (hL : Prs w w.heap.size D L) (h8 : n ≤ 60) (hq : q < n) (hsym : ∀ p q, p < n → q < n → hasB (at_ C p) q = hasB (at_ C q) p) :
    Calls Try.prog 52 #[.agg #[.slice A n cP, .slice B n d, .int .i64 st], .agg #[.slice D n cL, .int .i64 g, vX, .int .i64 wt], .int .i64 q] w fun e w' => e = .returned (.bool (!decide (HinP C L n q))) ∧ Below w.heap.size w w' := by
  have HL := Lib.hid hLn
  clear hLn
  have bW := lat_alloc (lat_alloc (Below.refl w.heap.size w) (.cells #[.slice A n cP, .slice B n d, .int .i64 st] 30)) (.cells #[.slice D n cL, .int .i64 g, vX, .int .i64 wt] 25)
  have BJ := (Blk.new (w := w) (t := 30) (cs := #[.slice A n cP, .slice B n d, .int .i64 st])).alloc (.cells #[.slice D n cL, .int .i64 g, vX, .int .i64 wt] 25)
  have BC := Blk.new (w := w.alloc (.cells #[.slice A n cP, .slice B n d, .int .i64 st] 30)) (t := 25) (cs := #[.slice D n cL, .int .i64 g, vX, .int .i64 wt])
  rw [heap_size] at BC
  have hL1 := hL.grow bW
  have hC1 := hC.grow bW
  go_enter Try.func52, Try.ntmps52
  have c0 := BC.at 0 rfl
  go_wp2_with fail
  generalize (w.alloc (.cells #[.slice A n cP, .slice B n d, .int .i64 st] 30)).alloc (.cells #[.slice D n cL, .int .i64 g, vX, .int .i64 wt] 25) = W at *
  clear c0
  go_loopw [12] (fun v wr => ∃ i : Nat, i ≤ n ∧ v = .int .i64 i ∧ Below W.heap.size W wr ∧ ∀ p, p < i → lmp L p ≠ 0 → ¬ hasB (at_ C p) q = true) (fun v _ => n - (intOf v).toNat)
  case atStart => exact ⟨0, by omega, rfl, Below.refl _ _, fun p hp => absurd hp (by omega)⟩
  case round =>
    obtain ⟨i, hi, rfl, hbr, hok⟩ := hrel
    by_cases hlt : i < n
    · have hltZ : (i : Int) < n := by omega
      obtain ⟨b2, off2, rfl, hbB2, l0, l1⟩ := (hL1.grow hbr).at (i := i) (by have := HL.out; omega)
      have B8 := Blk.new (w := wr) (t := 45) (cs := #[.int .i64 (prAt L i).1, .int .i64 (prAt L i).2])
      have bX := lat_alloc hbr (.cells #[.int .i64 (prAt L i).1, .int .i64 (prAt L i).2] 45)
      have BJr := (BJ.below hbr).alloc (.cells #[.int .i64 (prAt L i).1, .int .i64 (prAt L i).2] 45)
      have j1 := BJr.at 1 rfl
      clear BJr
      have k0 := B8.at 0 rfl
      have HD := Lib.hid (show lmp L i = (prAt L i).1 from rfl)
      have hC2 := (hC1.grow hbr).grow (lat_alloc (Below.refl wr.heap.size wr) (.cells #[.int .i64 (prAt L i).1, .int .i64 (prAt L i).2] 45))
      clear B8
      generalize prAt L i = y at *
      by_cases h2 : y.1 = 0
      · have z2 : (y.1 != 0) = false := by simpa using h2
        have H2 := Lib.hid h2
        clear h2
        go_wp2
        go_roundw
        case rel => exact ⟨i + 1, hlt, by go_num, bX, fun p hp hl => by by_cases e : p = i; · subst e; exact absurd (HD.out.trans H2.out) hl
                                                                        · exact hok p (by omega) hl⟩
        case measure => simp [intOf]; omega
      · have z2 : (y.1 != 0) = true := by simpa using h2
        have H2 := Lib.hid h2
        clear h2
        have hc := fun (b0 : Bool) (h0 : hasB (at_ C q) i = b0) => pcon_c (b := b0) C B d n q i _ hCn hC2 h8 hq hlt h0
        by_cases h3 : hasB (at_ C q) i = true
        · have HF := Lib.hid (show (!decide (HinP C L n q)) = false by rw [decide_eq_true (p := HinP C L n q) ⟨i, hlt, by rw [HD.out]; exact H2.out, by rw [hsym i q hlt hq]; exact h3⟩]; rfl)
          go_wp2_with fail
          refine (hc _ h3).mono ?_
          rintro e w2 ⟨rfl, rfl⟩
          go_wp2
          go_ret
          exact ⟨ret_b HF.out.symm, bW.trans (bX.mono bW.size)⟩
        · have h3f : hasB (at_ C q) i = false := by simpa using h3
          go_wp2_with fail
          refine (hc _ h3f).mono ?_
          rintro e w2 ⟨rfl, rfl⟩
          go_wp2
          go_roundw
          case rel => exact ⟨i + 1, hlt, by go_num, bX, fun p hp hl => by by_cases e : p = i; · subst e; rw [hsym p q hlt hq]; exact h3
                                                                          · exact hok p (by omega) hl⟩
          case measure => simp [intOf]; omega
    · have hltZ : ¬ (i : Int) < n := by omega
      have he : i = n := by omega
      subst he
      have HF := Lib.hid (show (!decide (HinP C L i q)) = true by rw [decide_eq_false (p := HinP C L i q) (fun h => by obtain ⟨p, h1, h2, h3⟩ := h; exact hok p h1 h2 h3)]; rfl)
      go_wp2
      go_ret
      exact ⟨ret_b HF.out.symm, bW.trans (hbr.mono bW.size)⟩
end Go.Proofs.Ytkpbkahmbbkcdaa

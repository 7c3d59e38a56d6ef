/-
  Is a ring idle; which phase is it to begin; which phases are not red. Conditions: as many lights as phases.
-/
import Derived.Test.YtkpbkahmbbkcdaaMt
namespace Go.Proofs.Ytkpbkahmbbkcdaa
open Go.ChangeShapes Go.WideShapes Go.RowKit
set_option linter.unusedVariables false

def IdlR (P : List Ph) (L : List (Int × Int)) (n : Nat) (r : Int) (b : Bool) : Prop := b = true ↔ IdleP P L n r
theorem idlR_eq {P : List Ph} {L : List (Int × Int)} {n : Nat} {r : Int} {b : Bool} (h : IdlR P L n r b) : b = idleB P L n r := by
  unfold IdlR at h; unfold idleB
  cases b with
  | true => rw [decide_eq_true (h.1 rfl)]
  | false => rw [decide_eq_false (fun hh => by have := h.2 hh; cases this)]
set_option maxHeartbeats 1000000 in
theorem idle_any (A B D E : Option Addr) (cP d cL cX n : Nat) (P : List Ph) (L : List (Int × Int)) (st g wt r : Int) (w : World) (hn : P.length = n) (hP : Phs w w.heap.size A P) (hLn : L.length = n) (hL : Prs w w.heap.size D L) (h8 : n ≤ 60) :
    Calls Try.prog 56 #[.agg #[.slice A n cP, .slice B n d, .int .i64 st], .agg #[.slice D n cL, .int .i64 g, .slice E 2 cX, .int .i64 wt], .int .i64 r] w fun e w' => e = .returned (.bool (idleB P L n r)) ∧ Below w.heap.size w w' := by
  have HN := Lib.hid hn
  have HL := Lib.hid hLn
  clear hn hLn
  have bW := lat_alloc (lat_alloc (Below.refl w.heap.size w) (.cells #[.slice A n cP, .slice B n d, .int .i64 st] 30)) (.cells #[.slice D n cL, .int .i64 g, .slice E 2 cX, .int .i64 wt] 25)
  have BJ := (Blk.new (w := w) (t := 30) (cs := #[.slice A n cP, .slice B n d, .int .i64 st])).alloc (.cells #[.slice D n cL, .int .i64 g, .slice E 2 cX, .int .i64 wt] 25)
  have BC := Blk.new (w := w.alloc (.cells #[.slice A n cP, .slice B n d, .int .i64 st] 30)) (t := 25) (cs := #[.slice D n cL, .int .i64 g, .slice E 2 cX, .int .i64 wt])
  rw [heap_size] at BC
  have hP1 := hP.grow bW
  have hL1 := hL.grow bW
  go_enter Try.func56, Try.ntmps56
  have c0 := BC.at 0 rfl
  go_wp2_with fail
  generalize (w.alloc (.cells #[.slice A n cP, .slice B n d, .int .i64 st] 30)).alloc (.cells #[.slice D n cL, .int .i64 g, .slice E 2 cX, .int .i64 wt] 25) = W at *
  clear c0
  go_loopw [12] (fun v wr => ∃ i : Nat, i ≤ n ∧ v = .int .i64 i ∧ Below W.heap.size W wr ∧ ∀ p, p < i → (phAt P p).ri = r → lmp L p = 0) (fun v _ => n - (intOf v).toNat)
  case atStart => exact ⟨0, by omega, rfl, Below.refl _ _, fun p hp => absurd hp (by omega)⟩
  case round =>
    obtain ⟨i, hi, rfl, hbr, hok⟩ := hrel
    by_cases hlt : i < n
    · have hltZ : (i : Int) < n := by omega
      obtain ⟨b, off, rfl, hbB, hph⟩ := (hP1.grow hbr).at (i := i) (by have := HN.out; omega)
      obtain ⟨b2, off2, rfl, hbB2, l0, l1⟩ := (hL1.grow hbr).at (i := i) (by have := HL.out; omega)
      have B8 := Blk.new (w := wr) (t := 45) (cs := #[.int .i64 (prAt L i).1, .int .i64 (prAt L i).2])
      have bX := lat_alloc hbr (.cells #[.int .i64 (prAt L i).1, .int .i64 (prAt L i).2] 45)
      have BJr := (BJ.below hbr).alloc (.cells #[.int .i64 (prAt L i).1, .int .i64 (prAt L i).2] 45)
      have j0 := BJr.at 0 rfl
      clear BJr
      have hph2 := hph.block (w' := wr.alloc (.cells #[.int .i64 (prAt L i).1, .int .i64 (prAt L i).2] 45)) ((lat_alloc (Below.refl _ _) _).block b hbB)
      obtain ⟨x0, x1, x2, x3, x4, x5, x6, x7⟩ := hph2
      clear x1 x2 x3 x4 x5 x6 x7
      have k0 := B8.at 0 rfl
      have HD := Lib.hid (show lmp L i = (prAt L i).1 from rfl)
      clear B8 hph
      obtain ⟨ri, hri⟩ : ∃ ri, (phAt P i).ri = ri := ⟨_, rfl⟩
      rw [hri] at x0
      have HR := Lib.hid hri
      clear hri
      generalize prAt L i = y at *
      by_cases h1 : ri = r
      · have z1 : (ri == r) = true := by simpa using h1
        by_cases h2 : y.1 = 0
        · have z2 : (y.1 != 0) = false := by simpa using h2
          have H2 := Lib.hid h2
          clear h1 h2
          go_wp2
          go_roundw
          case rel => exact ⟨i + 1, hlt, by go_num, bX, fun p hp hr => by
            by_cases e : p = i
            · subst e; rw [HD.out, H2.out]
            · exact hok p (by omega) hr⟩
          case measure => simp [intOf]; omega
        · have z2 : (y.1 != 0) = true := by simpa using h2
          have H1 := Lib.hid h1
          have H2 := Lib.hid h2
          clear h1 h2
          go_wp2
          go_ret
          exact ⟨ret_b (by unfold idleB; rw [decide_eq_false (fun h => by have := h i hlt (HR.out.trans H1.out); rw [HD.out] at this; exact H2.out this)]), bW.trans (bX.mono bW.size)⟩
      · have z1 : (ri == r) = false := by simpa using h1
        have H1 := Lib.hid h1
        clear h1
        go_wp2
        go_roundw
        case rel => exact ⟨i + 1, hlt, by go_num, bX, fun p hp hr => by
          by_cases e : p = i
          · subst e; exact absurd (HR.out.symm.trans hr) H1.out
          · exact hok p (by omega) hr⟩
        case measure => simp [intOf]; omega
    · have hltZ : ¬ (i : Int) < n := by omega
      go_wp2
      go_ret
      exact ⟨ret_b (by have hI : IdleP P L n r := (fun p hp => hok p (by omega)); unfold idleB; rw [decide_eq_true hI]), bW.trans (hbr.mono bW.size)⟩
set_option maxHeartbeats 1000000 in
theorem set_any (D E : Option Addr) (cL cX n : Nat) (L : List (Int × Int)) (g wt : Int) (w : World) (hLn : L.length = n) (hL : Prs w w.heap.size D L) (h8 : n ≤ 60) :
    Calls Try.prog 20 #[.agg #[.slice D n cL, .int .i64 g, .slice E 2 cX, .int .i64 wt]] w fun e w' => e = .returned (.int .i64 (setV L n : Nat)) ∧ Below w.heap.size w w' := by
  have HL := Lib.hid hLn
  clear hLn
  have bW := lat_alloc (Below.refl w.heap.size w) (.cells #[.slice D n cL, .int .i64 g, .slice E 2 cX, .int .i64 wt] 25)
  have BC := Blk.new (w := w) (t := 25) (cs := #[.slice D n cL, .int .i64 g, .slice E 2 cX, .int .i64 wt])
  have hL1 := hL.grow bW
  go_enter Try.func20, Try.ntmps20
  have c0 := BC.at 0 rfl
  go_wp2_with fail
  generalize w.alloc (.cells #[.slice D n cL, .int .i64 g, .slice E 2 cX, .int .i64 wt] 25) = W at *
  clear c0
  go_loopw [3, 9] (fun s3 v wr => ∃ i : Nat, i ≤ n ∧ s3 = .int .i64 (setV L i : Nat) ∧ v = .int .i64 i ∧ Below W.heap.size W wr) (fun _ v _ => n - (intOf v).toNat)
  case atStart => exact ⟨0, by omega, rfl, rfl, Below.refl _ _⟩
  case round =>
    obtain ⟨i, hi, rfl, rfl, hbr⟩ := hrel
    by_cases hlt : i < n
    · have hltZ : (i : Int) < n := by omega
      obtain ⟨b2, off2, rfl, hbB2, l0, l1⟩ := (hL1.grow hbr).at (i := i) (by have := HL.out; omega)
      have B8 := Blk.new (w := wr) (t := 45) (cs := #[.int .i64 (prAt L i).1, .int .i64 (prAt L i).2])
      have bX := lat_alloc hbr (.cells #[.int .i64 (prAt L i).1, .int .i64 (prAt L i).2] 45)
      have k0 := B8.at 0 rfl
      have HD := Lib.hid (show lmp L i = (prAt L i).1 from rfl)
      have HS := Lib.hid (show setV L (i + 1) = setV L i + if lmp L i ≠ 0 then 2 ^ i else 0 by rw [setV])
      have hsl := setV_lt L i
      have hpw := pow_60 (k := i) (by omega)
      have e60 : (2 : Nat) ^ 60 = 1152921504606846976 := by decide
      have hwp := wrap_pow (k := i) (by omega)
      clear B8
      generalize setV L i = s at *
      generalize prAt L i = y at *
      by_cases h2 : y.1 = 0
      · have z2 : (y.1 != 0) = false := by simpa using h2
        have H2 := Lib.hid h2
        clear h2 hwp hsl hpw e60
        go_wp2
        go_roundw
        case rel => exact ⟨i + 1, hlt, by rw [HS.out, if_neg (by rw [HD.out, H2.out]; simp)]; rfl, by go_num, bX⟩
        case measure => simp [intOf]; omega
      · have z2 : (y.1 != 0) = true := by simpa using h2
        have H2 := Lib.hid h2
        clear h2
        have HS2 := Lib.hid (show setV L (i + 1) = s + 2 ^ i by rw [HS.out, if_pos (by rw [HD.out]; exact H2.out)])
        obtain ⟨m, hm⟩ : ∃ m : Nat, 2 ^ i = m := ⟨_, rfl⟩
        rw [hm] at hwp hsl hpw HS2
        clear hm HS
        have hm2 : s < 1152921504606846976 ∧ m ≤ 1152921504606846976 := by omega
        clear hsl hpw e60
        go_wp2
        go_roundw
        case rel => exact ⟨i + 1, hlt, by rw [HS2.out]; go_num, by go_num, bX⟩
        case measure => simp [intOf]; omega
    · have hltZ : ¬ (i : Int) < n := by omega
      have he : i = n := by omega
      subst he
      go_wp2
      go_ret
      exact ⟨rfl, bW.trans (hbr.mono bW.size)⟩
end Go.Proofs.Ytkpbkahmbbkcdaa

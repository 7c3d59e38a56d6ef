/-
  Does every group below the greatest one occur? Is a junction valid? Conditions: a slice as long as its room at most.
-/
import Derived.Test.YtkpbkahmbbkcdaaAp
namespace Go.Proofs.Ytkpbkahmbbkcdaa
open Go.ChangeShapes Go.WideShapes Go.RowKit
set_option linter.unusedVariables false

theorem of_n (A B : Option Addr) (c d n m : Nat) (P : List Ph) (st r g : Int) (w : World) (hn : P.length = n) (hP : Phs w w.heap.size A P) (hl : n ≤ 60) :
    Calls Try.prog 72 #[.agg #[.slice A n c, .slice B m d, .int .i64 st], .int .i64 r, .int .i64 g] w fun e w' => ∃ (A' : Option Addr) (c' : Nat), e = .returned (.slice A' (ofL P r g n).length c') ∧ Below w.heap.size w w' ∧ Ints .i64 w' w'.heap.size A' (ofL P r g n) := by
  subst hn
  have := of_any A B c d P (List.replicate m 0) st r g w hP hl
  rw [List.length_replicate] at this
  exact this.mono fun e w' ⟨h1, A', c', h2, h3⟩ => ⟨A', c', h2, h1, h3⟩
theorem groups_n (A B : Option Addr) (c d n m : Nat) (P : List Ph) (st : Int) (w : World) (hn : P.length = n) (hP : Phs w w.heap.size A P) (hl : n ≤ 60) (hg : ∀ i, i < n → 0 ≤ (phAt P i).gr ∧ (phAt P i).gr ≤ 3) :
    Calls Try.prog 38 #[.agg #[.slice A n c, .slice B m d, .int .i64 st]] w fun e w' => e = .returned (.int .i64 (groupsI P n)) ∧ Below w.heap.size w w' := by
  subst hn
  have := groups_any A B c d P (List.replicate m 0) st w hP hl hg
  rw [List.length_replicate] at this
  exact this
/-- r tells whether every group below the greatest one occurs. -/
def Den (P : List Ph) (n : Nat) (r : Bool) : Prop := r = true ↔ ∀ g : Nat, (g : Int) < groupsI P n → ∃ i, i < n ∧ (phAt P i).gr = g
set_option maxHeartbeats 2000000 in
theorem dense_any (A B : Option Addr) (c d n m : Nat) (P : List Ph) (st : Int) (w : World) (hn : P.length = n) (hP : Phs w w.heap.size A P) (hl : n ≤ 60) (hp : ∀ i, i < n → placeB (phAt P i) = true) :
    Calls Try.prog 64 #[.agg #[.slice A n c, .slice B m d, .int .i64 st]] w fun e w' => Below w.heap.size w w' ∧ ∃ r : Bool, e = .returned (.bool r) ∧ Den P n r := by
  have HN := Lib.hid hn
  clear hn
  have hpl : ∀ i, i < n → (0 ≤ (phAt P i).ri ∧ (phAt P i).ri ≤ 1) ∧ 0 ≤ (phAt P i).gr ∧ (phAt P i).gr ≤ 3 := fun i hi => by
    have := hp i hi
    simpa [placeB, inR] using this
  have HPL := Lib.hid hpl
  have hgb := groups_bd (P := P) (fun i hi => (hpl i (by have := HN.out; omega)).2) n (by have := HN.out; omega)
  clear hpl hp
  have bW := lat_alloc (Below.refl w.heap.size w) (.cells #[.slice A n c, .slice B m d, .int .i64 st] 30)
  have BJ := Blk.new (w := w) (t := 30) (cs := #[.slice A n c, .slice B m d, .int .i64 st])
  have hP1 := hP.grow bW
  go_enter Try.func64, Try.ntmps64
  have j0 := BJ.at 0 rfl
  have j1 := BJ.at 1 rfl
  have j2 := BJ.at 2 rfl
  go_wp2_with fail
  generalize w.alloc (.cells #[.slice A n c, .slice B m d, .int .i64 st] 30) = W at *
  refine (groups_n A B c d n m P st W HN.out hP1 hl (fun i hi => (HPL.out i hi).2)).mono ?_
  rintro e W2 ⟨rfl, hb2⟩
  clear j0 j1 j2
  have BJ2 := BJ.below hb2
  have hP2 := hP1.grow hb2
  have bW2 := bW.trans (hb2.mono bW.size)
  clear hb2 BJ hP1 bW
  obtain ⟨G, hG⟩ := Int.eq_ofNat_of_zero_le hgb.1
  rw [hG] at hgb ⊢
  have HG := Lib.hid hG
  clear hG
  go_wp2_with fail
  go_loopw [8] (fun v wr => ∃ k : Nat, v = .int .i64 k ∧ Below W2.heap.size W2 wr ∧ k ≤ G ∧ ∀ g, g < k → ∃ i, i < n ∧ (phAt P i).gr = (g : Int)) (fun v _ => G - (intOf v).toNat)
  case atStart => exact ⟨0, rfl, Below.refl _ _, by omega, fun g hg => absurd hg (by omega)⟩
  case round =>
    obtain ⟨k, rfl, hbr, hk, hyes⟩ := hrel
    by_cases hlt : k < G
    · have hltZ : (k : Int) < G := by omega
      go_wp2
      go_loopw [4, 11] (fun s4 v ws => ∃ (r : Nat) (f : Bool), s4 = .bool f ∧ v = .int .i64 r ∧ Below W2.heap.size W2 ws ∧ r ≤ 2 ∧ (f = true ↔ ∃ i, i < n ∧ (phAt P i).gr = (k : Int) ∧ (phAt P i).ri < r)) (fun _ v _ => 2 - (intOf v).toNat)
      case atStart => exact ⟨0, false, rfl, rfl, hbr, by omega, by
        simp only [Bool.false_eq_true, false_iff]
        rintro ⟨i, hi, _, h⟩
        have := (HPL.out i hi).1; omega⟩
      case round =>
        obtain ⟨r, f, rfl, rfl, hbs, hr, hf⟩ := hrel
        have HF := Lib.hid hf
        clear hf
        by_cases hlr : r < 2
        · have hlrZ : (r : Int) < 2 := by omega
          cases f with
          | true =>
            go_wp2
            go_roundw
            case rel => exact ⟨r + 1, true, rfl, by go_num, hbs, by omega, by
              simp only [true_iff]
              obtain ⟨i, hi, h1, h2⟩ := HF.out.1 rfl
              exact ⟨i, hi, h1, by omega⟩⟩
            case measure => simp [intOf]; omega
          | false =>
            have BJs := BJ2.below hbs
            have j0 := BJs.at 0 rfl
            have j1 := BJs.at 1 rfl
            have j2 := BJs.at 2 rfl
            clear BJs
            go_wp2_with fail
            refine (of_n A B c d n m P st r k _ HN.out (hP2.grow hbs) hl).mono ?_
            rintro e W3 ⟨A', c', rfl, hb3, hI3⟩
            have hb4 := hbs.trans (hb3.mono hbs.size)
            have hz := of_pos P r k n
            have HZ := Lib.hid hz
            have hle := of_le P r k n
            generalize (ofL P r k n).length = z at *
            clear hz j0 j1 j2 hI3 hb3
            by_cases h0 : 0 < z
            · have h0Z : (0 : Int) < z := by omega
              go_wp2
              go_roundw
              case rel => exact ⟨r + 1, true, rfl, by go_num, hb4, by omega, by
                simp only [true_iff]
                obtain ⟨i, hi, h1, h2⟩ := HZ.out.1 h0
                exact ⟨i, hi, h2, by omega⟩⟩
              case measure => simp [intOf]; omega
            · have h0Z : ¬ (0 : Int) < z := by omega
              go_wp2
              go_roundw
              case rel => exact ⟨r + 1, false, rfl, by go_num, hb4, by omega, by
                simp only [Bool.false_eq_true, false_iff]
                rintro ⟨i, hi, h1, h2⟩
                by_cases e : (phAt P i).ri = r
                · exact h0 (HZ.out.2 ⟨i, hi, e, h1⟩)
                · exact absurd (HF.out.2 ⟨i, hi, h1, by omega⟩) (by simp)⟩
              case measure => simp [intOf]; omega
        · have hlrZ : ¬ (r : Int) < 2 := by omega
          have hr2 : r = 2 := by omega
          subst hr2
          cases f with
          | true =>
            go_wp2
            go_roundw
            case rel => exact ⟨k + 1, by go_num, hbs, by omega, fun g hg => by
              by_cases e : g = k
              · subst e
                obtain ⟨i, hi, h1, h2⟩ := HF.out.1 rfl
                exact ⟨i, hi, h1⟩
              · exact hyes g (by omega)⟩
            case measure => simp [intOf]; omega
          | false =>
            go_wp2
            go_ret
            exact ⟨bW2.trans (hbs.mono bW2.size), .inl ⟨rfl, by
              unfold Den
              simp only [Bool.false_eq_true, false_iff]
              intro h
              obtain ⟨i, hi, h1⟩ := h k (by have := HG.out; omega)
              have := HF.out.2 ⟨i, hi, h1, by have := (HPL.out i hi).1; omega⟩
              cases this⟩⟩
    · have hltZ : ¬ (k : Int) < G := by omega
      go_wp2
      go_ret
      exact ⟨bW2.trans (hbr.mono bW2.size), .inr ⟨rfl, by
        unfold Den
        simp only [true_iff]
        intro g hg
        exact hyes g (by have := HG.out; omega)⟩⟩
end Go.Proofs.Ytkpbkahmbbkcdaa
namespace Go.Proofs.Ytkpbkahmbbkcdaa
open Go.ChangeShapes Go.WideShapes Go.RowKit
set_option linter.unusedVariables false

theorem valid_n {C : List Int} {m : Nat} (hm : C.length = m) (A : Option Addr) (c : Nat) (w : World) (hs : Ints .i64 w w.heap.size A C) {b : Bool} (hb : validB6 C = b) : Calls Try.prog 60 #[.slice A m c] w fun e w' => e = .returned (.bool b) ∧ w = w' := by
  subst hm; subst hb
  exact valid_any A C c w.heap.size w hs
open Classical in
theorem valid6_iff {C : List Int} : validB6 C = true ↔ Valid6 C := by unfold validB6; exact decide_eq_true_iff
theorem place_c {p : Ph} {b : Bool} (h : placeB p = b) (w : World) : Calls Try.prog 61 #[.agg #[.int .i64 p.ri, .int .i64 p.gr, .int .i64 p.mn, .int .i64 p.mx, .int .i64 p.yl, .int .i64 p.rd, .int .i64 p.wk, .int .i64 p.cl]] w fun e w' => e = .returned (.bool b) ∧ Below w.heap.size w w' := by
  subst h; exact place_any p w
theorem timing_c {p : Ph} {b : Bool} (h : timB p = b) (w : World) : Calls Try.prog 62 #[.agg #[.int .i64 p.ri, .int .i64 p.gr, .int .i64 p.mn, .int .i64 p.mx, .int .i64 p.yl, .int .i64 p.rd, .int .i64 p.wk, .int .i64 p.cl]] w fun e w' => e = .returned (.bool b) ∧ Below w.heap.size w w' := by
  subst h; exact timing_any p w
theorem within_i {n : Int} {a b : Int} {r : Bool} (h : inR n a b = r) (w : World) : Calls Try.prog 59 #[.int .i64 n, .int .i64 a, .int .i64 b] w fun e w' => e = .returned (.bool r) ∧ w = w' := within_c h w
set_option maxHeartbeats 2000000 in
theorem plan_any (A B : Option Addr) (c d n m : Nat) (P : List Ph) (C : List Int) (st : Int) (w : World) (hn : P.length = n) (hm : C.length = m) (hP : Phs w w.heap.size A P) (hI : Ints .i64 w w.heap.size B C) (hc : n ≤ c) :
    Calls Try.prog 35 #[.agg #[.slice A n c, .slice B m d, .int .i64 st]] w fun e w' => e = .returned (.bool (junB P C st)) ∧ Below w.heap.size w w' := by
  have HN := Lib.hid hn
  have HM := Lib.hid hm
  clear hn hm
  have bW := lat_alloc (Below.refl w.heap.size w) (.cells #[.slice A n c, .slice B m d, .int .i64 st] 30)
  have BJ := Blk.new (w := w) (t := 30) (cs := #[.slice A n c, .slice B m d, .int .i64 st])
  have hP1 := hP.grow bW
  have hI1 := hI.grow bW
  go_enter Try.func35, Try.ntmps35
  have j0 := BJ.at 0 rfl
  have j1 := BJ.at 1 rfl
  have j2 := BJ.at 2 rfl
  go_wp2_with fail
  generalize w.alloc (.cells #[.slice A n c, .slice B m d, .int .i64 st] 30) = W at *
  cases h0 : inR (n : Int) 1 8 with
  | false =>
    have H0 := Lib.hid h0
    clear h0
    refine (within_c H0.out _).mono ?_
    rintro e w' ⟨rfl, rfl⟩
    go_wp2
    go_ret
    exact ⟨ret_b (by rw [jun_f (fun h => by have h1 := h.n; have h2 := HN.out; have h3 := H0.out; unfold inR at h3; simp at h3; omega)]), bW⟩
  | true =>
  have H0 := Lib.hid h0
  have hn8 : 1 ≤ n ∧ n ≤ 8 := by unfold inR at h0; simp at h0; omega
  clear h0
  refine (within_c H0.out _).mono ?_
  rintro e w' ⟨rfl, rfl⟩
  by_cases hnm : m = n
  rotate_left
  · have zn : ((m : Int) != (n : Int)) = true := by simp; omega
    have HNM := Lib.hid hnm
    clear hnm
    go_wp2
    go_ret
    exact ⟨ret_b (by rw [jun_f (fun h => HNM.out (by have := h.c; have h2 := HN.out; have h3 := HM.out; omega))]), bW⟩
  subst hnm
  have zn : ((m : Int) != (m : Int)) = false := by simp
  cases hv : validB6 C with
  | false =>
    have HV := Lib.hid hv
    clear hv
    go_wp2_with fail
    refine (valid_n HM.out B d W hI1 HV.out).mono ?_
    rintro e w' ⟨rfl, rfl⟩
    go_wp2
    go_ret
    exact ⟨ret_b (by rw [jun_f (fun h => by have h1 := valid6_iff.2 h.v; rw [HV.out] at h1; cases h1)]), bW⟩
  | true =>
  have HV := Lib.hid hv
  clear hv
  go_wp2_with fail
  refine (valid_n HM.out B d W hI1 HV.out).mono ?_
  rintro e w' ⟨rfl, rfl⟩
  go_wp2_with fail
  cases h2 : inR st 0 60 with
  | false =>
    have H2 := Lib.hid h2
    clear h2
    refine (within_c H2.out _).mono ?_
    rintro e w' ⟨rfl, rfl⟩
    go_wp2
    go_ret
    exact ⟨ret_b (by rw [jun_f (fun h => by have h1 := h.st; have h3 := H2.out; unfold inR at h3; simp at h3; omega)]), bW⟩
  | true =>
  have H2 := Lib.hid h2
  have hst : 0 ≤ st ∧ st ≤ 60 := by unfold inR at h2; simp at h2; omega
  clear h2
  refine (within_c H2.out _).mono ?_
  rintro e w' ⟨rfl, rfl⟩
  go_wp2_with fail
  clear j0 j1 j2
  go_loopw [32] (fun v wr => ∃ i : Nat, i ≤ m ∧ v = .int .i64 i ∧ Below W.heap.size W wr ∧ ∀ k, k < i → placeB (phAt P k) = true ∧ timB (phAt P k) = true) (fun v _ => m - (intOf v).toNat)
  case atStart => exact ⟨0, by omega, rfl, Below.refl _ _, fun k hk => absurd hk (by omega)⟩
  case round =>
    obtain ⟨i, hi, rfl, hbr, hok⟩ := hrel
    by_cases hlt : i < m
    · have hltZ : (i : Int) < m := by omega
      obtain ⟨b, off, rfl, hbB, hph⟩ := (hP1.grow hbr).at (i := i) (by have := HN.out; omega)
      obtain ⟨x0, x1, x2, x3, x4, x5, x6, x7⟩ := hph
      have B5 := Blk.new (w := wr) (t := 51) (cs := #[.int .i64 (phAt P i).ri, .int .i64 (phAt P i).gr, .int .i64 (phAt P i).mn, .int .i64 (phAt P i).mx, .int .i64 (phAt P i).yl, .int .i64 (phAt P i).rd, .int .i64 (phAt P i).wk, .int .i64 (phAt P i).cl])
      have bX := lat_alloc hbr (.cells #[.int .i64 (phAt P i).ri, .int .i64 (phAt P i).gr, .int .i64 (phAt P i).mn, .int .i64 (phAt P i).mx, .int .i64 (phAt P i).yl, .int .i64 (phAt P i).rd, .int .i64 (phAt P i).wk, .int .i64 (phAt P i).cl] 51)
      have HPI := Lib.hid (show ∀ p, phAt P i = p → p = phAt P i from fun p h => h.symm)
      obtain ⟨p, hp⟩ : ∃ p, phAt P i = p := ⟨_, rfl⟩
      have HP := Lib.hid hp
      rw [hp] at x0 x1 x2 x3 x4 x5 x6 x7 B5 bX
      clear hp HPI
      have k0 := B5.at 0 rfl
      have k1 := B5.at 1 rfl
      have k2 := B5.at 2 rfl
      have k3 := B5.at 3 rfl
      have k4 := B5.at 4 rfl
      have k5 := B5.at 5 rfl
      have k6 := B5.at 6 rfl
      have k7 := B5.at 7 rfl
      have zs := B5.lt
      cases h3 : placeB p with
      | false =>
        have H3 := Lib.hid h3
        clear h3
        go_wp2_with fail
        refine (place_c H3.out _).mono ?_
        rintro e w4 ⟨rfl, hb4⟩
        go_wp2
        go_ret
        exact ⟨ret_b (by rw [jun_f (fun h => by have h1 := (h.ph i (by have := HN.out; omega)).1; rw [HP.out, H3.out] at h1; cases h1)]), bW.trans ((bX.trans (hb4.mono bX.size)).mono bW.size)⟩
      | true =>
        have H3 := Lib.hid h3
        clear h3
        go_wp2_with fail
        refine (place_c H3.out _).mono ?_
        rintro e w4 ⟨rfl, hb4⟩
        have B6 := B5.below hb4
        clear k0 k1 k2 k3 k4 k5 k6 k7
        have k0 := B6.at 0 rfl
        have k1 := B6.at 1 rfl
        have k2 := B6.at 2 rfl
        have k3 := B6.at 3 rfl
        have k4 := B6.at 4 rfl
        have k5 := B6.at 5 rfl
        have k6 := B6.at 6 rfl
        have k7 := B6.at 7 rfl
        have bX4 := bX.trans (hb4.mono bX.size)
        cases h4 : timB p with
        | false =>
          have H4 := Lib.hid h4
          clear h4
          go_wp2_with fail
          refine (timing_c H4.out _).mono ?_
          rintro e w5 ⟨rfl, hb5⟩
          go_wp2
          go_ret
          exact ⟨ret_b (by rw [jun_f (fun h => by have h1 := (h.ph i (by have := HN.out; omega)).2; rw [HP.out, H4.out] at h1; cases h1)]), bW.trans ((bX4.trans (hb5.mono bX4.size)).mono bW.size)⟩
        | true =>
          have H4 := Lib.hid h4
          clear h4
          go_wp2_with fail
          refine (timing_c H4.out _).mono ?_
          rintro e w5 ⟨rfl, hb5⟩
          go_wp2
          go_roundw
          case rel => exact ⟨i + 1, hlt, by go_num, bX4.trans (hb5.mono bX4.size), fun k hk => by
            by_cases e : k = i
            · subst e; rw [HP.out]; exact ⟨H3.out, H4.out⟩
            · exact hok k (by omega)⟩
          case measure => simp [intOf]; omega
    · have hltZ : ¬ (i : Int) < m := by omega
      have BJr := BJ.below hbr
      have j0 := BJr.at 0 rfl
      have j1 := BJr.at 1 rfl
      have j2 := BJr.at 2 rfl
      clear BJr
      go_wp2_with fail
      refine (apart_any A B c d m P C st wr HN.out HM.out (hP1.grow hbr) (hI1.grow hbr) (by omega) hc).mono ?_
      rintro e w4 ⟨hb4, r, rfl, hr⟩
      have HR := Lib.hid hr
      clear hr j0 j1 j2
      have hbq := hbr.trans (hb4.mono hbr.size)
      cases r with
      | false =>
        go_wp2
        go_ret
        exact ⟨ret_b (by rw [jun_f (fun h => by have h1 := HR.out.2 (fun p hp q hq => h.ap p (by have := HN.out; omega) q hq); cases h1)]), bW.trans (hbq.mono bW.size)⟩
      | true =>
        have BJr := BJ.below hbq
        have j0 := BJr.at 0 rfl
        have j1 := BJr.at 1 rfl
        have j2 := BJr.at 2 rfl
        clear BJr
        go_wp2_with fail
        refine (dense_any A B c d m m P st w4 HN.out (hP1.grow hbq) (by omega) (fun k hk => (hok k (by omega)).1)).mono ?_
        rintro e w5 ⟨hb5, r, rfl, hr5⟩
        have HR5 := Lib.hid hr5
        clear hr5 j0 j1 j2
        go_wp2
        go_ret
        refine ⟨?_, bW.trans ((hbq.trans (hb5.mono hbq.size)).mono bW.size)⟩
        refine ret_b (Bool.eq_iff_iff.2 ?_)
        have hDen := HR5.out
        unfold Den at hDen
        rw [hDen, jun_iff]
        have h1 := HN.out
        have h2 := HM.out
        constructor
        · intro hd
          exact ⟨by omega, by omega, valid6_iff.1 HV.out, hst, fun k hk => hok k (by omega), fun p hp q hq hh => HR.out.1 (by trivial) p (by omega) q hq hh, fun g hg => by
            rw [h1] at hg
            obtain ⟨i, hi, e⟩ := hd g hg
            exact ⟨i, by omega, e⟩⟩
        · intro h g hg
          obtain ⟨i, hi, e⟩ := h.de g (by rw [h1]; exact hg)
          exact ⟨i, by omega, e⟩
end Go.Proofs.Ytkpbkahmbbkcdaa

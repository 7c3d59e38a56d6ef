/-
  What is decided. Conditions: small numbers.
-/
import Derived.Test.YtikffoepndpfjaaAd
namespace Go.Proofs.Ytikffoepndpfjaa
open Go.ChangeShapes Go.WideShapes Go.RowKit
set_option linter.unusedVariables false

/-- The service behind its end, if it is to end. -/
def midT (hold ph gr : Int) (E : List Int) (C : List Cl) (now : Int) : Int × Int × List Int := if ph ≠ -1 ∧ overB hold ph gr C = true then (-1, 0, endE ph gr E now) else (ph, gr, E)
/-- What is decided. -/
def decT (per cap hold lock ph gr : Int) (E : List Int) (C : List Cl) (now : Int) : Int × Int × List Int :=
  if (midT hold ph gr E C now).1 ≠ -1 then midT hold ph gr E C now else
    if 0 ≤ bestK per cap lock (midT hold ph gr E C now).2.2 now C C.length then ((clAt C (bestK per cap lock (midT hold ph gr E C now).2.2 now C C.length).toNat).ph, 0, (midT hold ph gr E C now).2.2) else midT hold ph gr E C now
theorem six {w : World} {g : Nat} {t : TypeId} {a b c d e f : Value} (h : Blk w g t #[a, b, c, d, e, f]) : w.cell? ⟨g, 0, none⟩ = some a ∧ w.cell? ⟨g, 1, none⟩ = some b ∧ w.cell? ⟨g, 2, none⟩ = some c ∧ w.cell? ⟨g, 3, none⟩ = some d ∧ w.cell? ⟨g, 4, none⟩ = some e ∧ w.cell? ⟨g, 5, none⟩ = some f := ⟨h.cell 0, h.cell 1, h.cell 2, h.cell 3, h.cell 4, h.cell 5⟩
theorem Cls.grownN {w w' : World} {A : Option Addr} {C : List Cl} {B g : Nat} (h : Cls w B A C) (hB : B ≤ g) (hBs : B ≤ w.heap.size) (hg : w.grownBy w' (some g)) : Cls w' w'.heap.size A C := fun h0 => by
  obtain ⟨b, off, hA, hb, hc⟩ := h h0
  have hcell : ∀ o, w'.cell? ⟨b, o, none⟩ = w.cell? ⟨b, o, none⟩ := fun o => World.cell?_of_block (hg.block b (by omega) (fun e => by injection e with e; omega))
  exact ⟨b, off, hA, by have := hg.size; omega, fun i hi => ⟨(hcell _).trans (hc i hi).1, (hcell _).trans (hc i hi).2.1, (hcell _).trans (hc i hi).2.2.1, (hcell _).trans (hc i hi).2.2.2.1, (hcell _).trans (hc i hi).2.2.2.2⟩⟩
theorem Cls.below_ {w w' : World} {B : Nat} {A : Option Addr} {C : List Cl} (h : Cls w B A C) (hb : Below B w w') : Cls w' B A C := fun h0 => by
  obtain ⟨b, off, hA, hB, hc⟩ := h h0
  exact ⟨b, off, hA, hB, fun i hi => (hc i hi).below hb hB⟩
theorem Cls.grown_ {w w' : World} {A : Option Addr} {C : List Cl} {B g : Nat} (h : Cls w B A C) (hg : w.grownBy w' (some g)) (hB : B ≤ g) (hBs : B ≤ w.heap.size) : Cls w' B A C := fun h0 => by
  obtain ⟨b, off, hA, hb, hc⟩ := h h0
  have hcell : ∀ o, w'.cell? ⟨b, o, none⟩ = w.cell? ⟨b, o, none⟩ := fun o => World.cell?_of_block (hg.block b (by omega) (fun e => by injection e with e; omega))
  exact ⟨b, off, hA, hb, fun i hi => ⟨(hcell _).trans (hc i hi).1, (hcell _).trans (hc i hi).2.1, (hcell _).trans (hc i hi).2.2.1, (hcell _).trans (hc i hi).2.2.2.1, (hcell _).trans (hc i hi).2.2.2.2⟩⟩
theorem isover_c (per cap hold lock ph gr : Int) (A : Option Addr) (n c : Nat) (D : Option Addr) (d : Nat) (C : List Cl) (w : World) (hC : Cls w w.heap.size D C) (hl : C.length ≤ 1000000) {b : Bool} (hb : overB hold ph gr C = b) :
    Calls Try.prog 30 #[.agg #[.slice none 0 0, .slice none 0 0, .int .i64 per, .int .i64 cap, .int .i64 hold, .int .i64 lock], .agg #[.int .i64 ph, .int .i64 gr, .slice A n c], .slice D C.length d] w fun e w' => e = .returned (.bool b) ∧ Below w.heap.size w w' := by
  rw [← hb]; exact isover_any per cap hold lock ph gr A n c D d C w hC hl
theorem small_end {E : List Int} (h : Small E) {ph gr now : Int} (hnow : 0 ≤ now ∧ now ≤ 10000) : Small (endE ph gr E now) := by
  unfold endE
  split
  · intro x hx
    rcases List.mem_or_eq_of_mem_set hx with h1 | rfl
    · exact h x h1
    · omega
  · exact h
set_option maxRecDepth 20000 in
set_option maxHeartbeats 4000000 in
theorem decide_any (per cap hold lock ph gr : Int) (A : Option Addr) (n c : Nat) (E0 : List Int) (D : Option Addr) (d : Nat) (C : List Cl) (now : Int) (w : World) (hn : E0.length = n) (hI : Ints .i64 w w.heap.size A E0) (hp : 0 < n) (hl : n ≤ 1000000) (hS : Small E0) (hper : 1 ≤ per ∧ per ≤ 10000) (hcap : 0 ≤ cap ∧ cap ≤ 1000) (hlock : 0 ≤ lock ∧ lock ≤ 1000) (hnow : 0 ≤ now ∧ now ≤ 10000)
    (hC : Cls w w.heap.size D C) (hok : AllOk C) (hml : C.length ≤ 1000000) :
    Calls Try.prog 21 #[.agg #[.slice none 0 0, .slice none 0 0, .int .i64 per, .int .i64 cap, .int .i64 hold, .int .i64 lock], .agg #[.int .i64 ph, .int .i64 gr, .slice A n c], .slice D C.length d, .int .i64 now] w fun e w' => SvOut w (decT per cap hold lock ph gr E0 C now).1 (decT per cap hold lock ph gr E0 C now).2.1 n (decT per cap hold lock ph gr E0 C now).2.2 e w' := by
  have bX := lat_alloc (lat_alloc (lat_alloc (Below.refl w.heap.size w) (.cells #[.slice none 0 0, .slice none 0 0, .int .i64 per, .int .i64 cap, .int .i64 hold, .int .i64 lock] 33)) (.cells #[.int .i64 ph, .int .i64 gr, .slice A n c] 24)) (.cells #[.int .i64 0, .int .i64 0, .slice none 0 0] 24)
  have BC := ((Blk.new (w := w) (t := 33) (cs := #[.slice none 0 0, .slice none 0 0, .int .i64 per, .int .i64 cap, .int .i64 hold, .int .i64 lock])).alloc (.cells #[.int .i64 ph, .int .i64 gr, .slice A n c] 24)).alloc (.cells #[.int .i64 0, .int .i64 0, .slice none 0 0] 24)
  have B0 := (Blk.new (w := w.alloc (.cells #[.slice none 0 0, .slice none 0 0, .int .i64 per, .int .i64 cap, .int .i64 hold, .int .i64 lock] 33)) (t := 24) (cs := #[.int .i64 ph, .int .i64 gr, .slice A n c])).alloc (.cells #[.int .i64 0, .int .i64 0, .slice none 0 0] 24)
  have B1 := Blk.new (w := (w.alloc (.cells #[.slice none 0 0, .slice none 0 0, .int .i64 per, .int .i64 cap, .int .i64 hold, .int .i64 lock] 33)).alloc (.cells #[.int .i64 ph, .int .i64 gr, .slice A n c] 24)) (t := 24) (cs := #[.int .i64 0, .int .i64 0, .slice none 0 0])
  rw [heap_size] at B0
  rw [heap_size, heap_size] at B1
  have hIX := hI.grow bX
  have hCX := hC.below_ bX
  go_enter Try.func21, Try.ntmps21
  go_wp2_with fail
  have hltW := B1.lt
  generalize (((w.alloc (.cells #[.slice none 0 0, .slice none 0 0, .int .i64 per, .int .i64 cap, .int .i64 hold, .int .i64 lock] 33)).alloc (.cells #[.int .i64 ph, .int .i64 gr, .slice A n c] 24)).alloc (.cells #[.int .i64 0, .int .i64 0, .slice none 0 0] 24)) = W at *
  refine (clone_any ph gr A n c E0 W hn hIX hp hl).mono ?_
  rintro e w2 ⟨A2, c2, rfl, hb2, own⟩
  have CC := BC.below hb2
  have C0 := B0.below hb2
  have C1 := B1.below hb2
  have bz := bX.trans (hb2.mono bX.size)
  have hW2 := hb2.size
  have hC2 := hCX.below_ (hb2.mono (show w.heap.size ≤ W.heap.size by omega))
  have HN := Lib.hid hn
  clear hn hI hIX hC hCX BC B0 B1
  by_cases q : ph = -1
  · subst q
    have HM : Hid (midT hold (-1) gr E0 C now = (-1, gr, E0)) := Lib.hid (by unfold midT; rw [if_neg (by simp)])
    go_wp2_with (show wpList _ _ _ (Oper.mk none (.store _ (.tmp 5) (.tmp 11)) _ _ _ _ :: _) _ _; refine wpList_store3 rfl rfl rfl rfl rfl C0 ⟨rfl, rfl, rfl⟩ ⟨_, _, rfl⟩ ⟨_, _, rfl⟩ ⟨_, _, _, rfl⟩ ?_; intro w3 D0 g3; have D1 := C1.grown g3 (by intro e; injection e with e; omega); have DC := CC.grown g3 (by intro e; injection e with e; omega); have own3 := own.block (w' := w3) (fun b hb => g3.block b (own.lt hb).2 (by have := (own.lt hb).1; intro e; injection e with e; omega)); have bz3 := bz.grown g3 bz.size (fun k e => by injection e with e; omega); have hC3 := hC2.grownN (show w.heap.size ≤ w.heap.size + 1 by omega) (by omega) g3; have hsz3 := g3.size; obtain ⟨t0, t1, t2, f0, f1, f2⟩ := D0.three; obtain ⟨u0, u1, u2, h0, h1, h2⟩ := D1.three; obtain ⟨r0, r1, r2, r3, r4, r5⟩ := six DC)
    have hIE := (own3.intsN).1
    clear t0 t1 t2 f0 f1 f2 u0 u1 u2 h0 h1 h2 r0 r1 r2 r3 r4 r5
    refine (best_any per cap hold lock (-1) gr A2 c2 n E0 now D d C.length C w3 (own3.intsN).2 hIE hl hS hper hcap hlock hnow rfl hC3 hok hml).mono ?_
    rintro e w5 ⟨rfl, hb5⟩
    have K0 := D0.below hb5
    have K1 := D1.below hb5
    have KB := bz3.trans (hb5.mono bz3.size)
    have KO := own3.below hb5
    have hC5 := hC3.grow hb5
    obtain ⟨t0, t1, t2, f0, f1, f2⟩ := K0.three
    obtain ⟨u0, u1, u2, h0, h1, h2⟩ := K1.three
    have hbd := bestK_bd per cap lock (E0) now C C.length
    generalize hbk : bestK per cap lock (E0) now C C.length = bk at *
    by_cases qb : 0 ≤ bk
    · obtain ⟨k, rfl⟩ := Int.eq_ofNat_of_zero_le qb
      have hkl : k < C.length := by omega
      have HR : Hid (decT per cap hold lock (-1) gr E0 C now = ((clAt C k).ph, 0, E0)) := Lib.hid (by unfold decT; rw [HM.out]; simp only [ne_eq, not_true_eq_false, if_false]; rw [hbk, if_pos qb]; rfl)
      obtain ⟨b, off, rfl, hB, j0, j1, j2, j3, j4⟩ := hC5.at hkl
      have zb : decide ((k : Int) ≥ 0) = true := by simp
      clear hbk hbd qb
      generalize clAt C k = x at *
      go_wp2
      refine bodyPost_ret (results_cell rfl rfl (load_service (Blk.set3 ((K1.far (p := ⟨w.heap.size + 1, 0, none⟩) (by simp) _).far (p := ⟨w.heap.size + 1, 1, none⟩) (by simp) _) _ _ _))) rfl ?_
      rw [HR.out]
      exact ⟨A2, c2, rfl, below_set3 ((KB.setCell (p := ⟨w.heap.size + 1, 0, none⟩) (by simp) _).setCell (p := ⟨w.heap.size + 1, 1, none⟩) (by simp) _) (by omega) _ _ _, (((((KO.away (by omega) _).away (by omega) _).away (by omega) _).away (by omega) _).away (by omega) _).rebase (by omega)⟩
    · have HR : Hid (decT per cap hold lock (-1) gr E0 C now = ((-1), gr, E0)) := Lib.hid (by unfold decT; rw [HM.out]; simp only [ne_eq, not_true_eq_false, if_false]; rw [hbk, if_neg qb])
      have zb : decide (bk ≥ 0) = false := by simpa using qb
      clear hbk hbd qb
      go_wp2
      refine bodyPost_ret (results_cell rfl rfl (load_service (Blk.set3 K1 _ _ _))) rfl ?_
      rw [HR.out]
      exact ⟨A2, c2, rfl, below_set3 KB (by omega) _ _ _, (((KO.away (by omega) _).away (by omega) _).away (by omega) _).rebase (by omega)⟩
  · have z : (ph != -1) = true := by simpa using q
    have HQ := Lib.hid q
    clear q
    go_wp2_with (show wpList _ _ _ (Oper.mk none (.store _ (.tmp 5) (.tmp 11)) _ _ _ _ :: _) _ _; refine wpList_store3 rfl rfl rfl rfl rfl C0 ⟨rfl, rfl, rfl⟩ ⟨_, _, rfl⟩ ⟨_, _, rfl⟩ ⟨_, _, _, rfl⟩ ?_; intro w3 D0 g3; have D1 := C1.grown g3 (by intro e; injection e with e; omega); have DC := CC.grown g3 (by intro e; injection e with e; omega); have own3 := own.block (w' := w3) (fun b hb => g3.block b (own.lt hb).2 (by have := (own.lt hb).1; intro e; injection e with e; omega)); have bz3 := bz.grown g3 bz.size (fun k e => by injection e with e; omega); have hC3 := hC2.grownN (show w.heap.size ≤ w.heap.size + 1 by omega) (by omega) g3; have hsz3 := g3.size; obtain ⟨t0, t1, t2, f0, f1, f2⟩ := D0.three; obtain ⟨u0, u1, u2, h0, h1, h2⟩ := D1.three; obtain ⟨r0, r1, r2, r3, r4, r5⟩ := six DC)
    clear t0 t1 t2 f0 f1 f2 u0 u1 u2 h0 h1 h2 r0 r1 r2 r3 r4 r5
    generalize hov : overB hold ph gr C = ov
    refine (isover_c per cap hold lock ph gr A2 n c2 D d C w3 hC3 hml hov).mono ?_
    rintro e w4 ⟨rfl, hb4⟩
    have L0 := D0.below hb4
    have L1 := D1.below hb4
    have LC := DC.below hb4
    have LB := bz3.trans (hb4.mono bz3.size)
    have LO := own3.below hb4
    have hC4 := hC3.grow hb4
    have hsz4 := hb4.size
    obtain ⟨t0, t1, t2, f0, f1, f2⟩ := L0.three
    obtain ⟨u0, u1, u2, h0, h1, h2⟩ := L1.three
    cases ov with
    | false =>
      have HR : Hid (decT per cap hold lock ph gr E0 C now = (ph, gr, E0)) := Lib.hid (by
        have hM : midT hold ph gr E0 C now = (ph, gr, E0) := by unfold midT; rw [if_neg (by rw [hov]; simp)]
        unfold decT; rw [hM, if_pos (show (ph, gr, E0).1 ≠ -1 from HQ.out)])
      clear hov
      go_wp2
      refine bodyPost_ret (results_cell rfl rfl (load_service (Blk.set3 L1 _ _ _))) rfl ?_
      rw [HR.out]
      exact ⟨A2, c2, rfl, below_set3 LB (by omega) _ _ _, (((LO.away (by omega) _).away (by omega) _).away (by omega) _).rebase (by omega)⟩
    | true =>
      have HM : Hid (midT hold ph gr E0 C now = (-1, 0, endE ph gr E0 now)) := Lib.hid (by unfold midT; rw [if_pos ⟨HQ.out, hov⟩])
      have hSE := small_end hS (ph := ph) (gr := gr) hnow
      clear hov
      go_wp2_with fail
      refine (end_any ph gr A2 n c2 E0 now w4 HN.out (LO.intsN).1 hp hl).mono ?_
      rintro e w5 ⟨A5, c5, rfl, hb5, own5⟩
      have M0 := L0.below hb5
      have M1 := L1.below hb5
      have MC := LC.below hb5
      have MB := LB.trans (hb5.mono LB.size)
      have hsz5 := hb5.size
      have hC2x : Cls w5 w.heap.size D C := (((hC2.grown_ g3 (by omega) (by omega)).below_ (hb4.mono (by omega))).below_ (hb5.mono (by omega)))
      generalize endE ph gr E0 now = E5 at *
      clear t0 t1 t2 f0 f1 f2 u0 u1 u2 h0 h1 h2
      go_wp2_with (show wpList _ _ _ (Oper.mk none (.store _ (.tmp 5) (.tmp 23)) _ _ _ _ :: _) _ _; refine wpList_store3 rfl rfl rfl rfl rfl M0 ⟨rfl, rfl, rfl⟩ ⟨_, _, rfl⟩ ⟨_, _, rfl⟩ ⟨_, _, _, rfl⟩ ?_; intro w3x D0x g3x; have D1x := M1.grown g3x (by intro e; injection e with e; omega); have DCx := MC.grown g3x (by intro e; injection e with e; omega); have own3x := own5.block (w' := w3x) (fun b hb => g3x.block b (own5.lt hb).2 (by have := (own5.lt hb).1; intro e; injection e with e; omega)); have bz3x := MB.grown g3x MB.size (fun k e => by injection e with e; omega); have hC3x := hC2x.grownN (show w.heap.size ≤ w.heap.size + 1 by omega) (by omega) g3x; have hsz3x := g3x.size; obtain ⟨t0x, t1x, t2x, f0x, f1x, f2x⟩ := D0x.three; obtain ⟨u0x, u1x, u2x, h0x, h1x, h2x⟩ := D1x.three; obtain ⟨r0x, r1x, r2x, r3x, r4x, r5x⟩ := six DCx)
      have hIEx := (own3x.intsN).1
      clear t0x t1x t2x f0x f1x f2x u0x u1x u2x h0x h1x h2x r0x r1x r2x r3x r4x r5x
      refine (best_any per cap hold lock (-1) 0 A5 c5 n E5 now D d C.length C w3x (own3x.intsN).2 hIEx hl hSE hper hcap hlock hnow rfl hC3x hok hml).mono ?_
      rintro e w5 ⟨rfl, hb5⟩
      have K0 := D0x.below hb5
      have K1 := D1x.below hb5
      have KB := bz3x.trans (hb5.mono bz3x.size)
      have KO := own3x.below hb5
      have hC5 := hC3x.grow hb5
      obtain ⟨t0, t1, t2, f0, f1, f2⟩ := K0.three
      obtain ⟨u0, u1, u2, h0, h1, h2⟩ := K1.three
      have hbd := bestK_bd per cap lock (E5) now C C.length
      generalize hbk : bestK per cap lock (E5) now C C.length = bk at *
      by_cases qb : 0 ≤ bk
      · obtain ⟨k, rfl⟩ := Int.eq_ofNat_of_zero_le qb
        have hkl : k < C.length := by omega
        have HR : Hid (decT per cap hold lock ph gr E0 C now = ((clAt C k).ph, 0, E5)) := Lib.hid (by unfold decT; rw [HM.out]; simp only [ne_eq, not_true_eq_false, if_false]; rw [hbk, if_pos qb]; rfl)
        obtain ⟨b, off, rfl, hB, j0, j1, j2, j3, j4⟩ := hC5.at hkl
        have zb : decide ((k : Int) ≥ 0) = true := by simp
        clear hbk hbd qb
        generalize clAt C k = x at *
        go_wp2
        refine bodyPost_ret (results_cell rfl rfl (load_service (Blk.set3 ((K1.far (p := ⟨w.heap.size + 1, 0, none⟩) (by simp) _).far (p := ⟨w.heap.size + 1, 1, none⟩) (by simp) _) _ _ _))) rfl ?_
        rw [HR.out]
        exact ⟨A5, c5, rfl, below_set3 ((KB.setCell (p := ⟨w.heap.size + 1, 0, none⟩) (by simp) _).setCell (p := ⟨w.heap.size + 1, 1, none⟩) (by simp) _) (by omega) _ _ _, (((((KO.away (by omega) _).away (by omega) _).away (by omega) _).away (by omega) _).away (by omega) _).rebase (by omega)⟩
      · have HR : Hid (decT per cap hold lock ph gr E0 C now = ((-1), 0, E5)) := Lib.hid (by unfold decT; rw [HM.out]; simp only [ne_eq, not_true_eq_false, if_false]; rw [hbk, if_neg qb])
        have zb : decide (bk ≥ 0) = false := by simpa using qb
        clear hbk hbd qb
        go_wp2
        refine bodyPost_ret (results_cell rfl rfl (load_service (Blk.set3 K1 _ _ _))) rfl ?_
        rw [HR.out]
        exact ⟨A5, c5, rfl, below_set3 KB (by omega) _ _ _, (((KO.away (by omega) _).away (by omega) _).away (by omega) _).rebase (by omega)⟩
end Go.Proofs.Ytikffoepndpfjaa

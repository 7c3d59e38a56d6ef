/-
  What the other side decides. Conditions: small numbers, nothing behind now.
-/
import Derived.Test.YtikffoepndpfjaaRbe
import Derived.Test.YtikffoepndpfjaaRq
namespace Go.Proofs.Ytikffoepndpfjaa
open Go.ChangeShapes Go.WideShapes Go.RowKit
set_option linter.unusedVariables false

theorem start_le {E : List Int} {now ph si : Int} (hup : ∀ y ∈ E, y ≤ now) (hsi : si ≤ now) (h : -1 ≤ now) : startV E ph si ≤ now := by
  unfold startV endV
  split
  · omega
  · rename_i hp
    have := hup _ (at_mem (l := E) (i := ph.toNat) (by omega))
    omega
theorem up_end {ph gr now : Int} {E : List Int} (hup : ∀ y ∈ E, y ≤ now) : ∀ y ∈ endE ph gr E now, y ≤ now := fun y hy => by
  unfold endE at hy
  split at hy
  · rcases List.mem_or_eq_of_mem_set hy with h1 | rfl
    · exact hup y h1
    · omega
  · exact hup y hy
theorem rem_c (x : Cl) (w : World) {b : Bool} (hb : emB x.cl = b) : Calls Try.prog 32 #[.agg #[.int .i64 x.ag, .int .i64 x.id, .int .i64 x.ph, .int .i64 x.cl, .int .i64 x.si]] w fun e w' => e = .returned (.bool b) ∧ Below w.heap.size w w' := by
  rw [← hb]; exact rem_any x.ag x.id x.ph x.cl x.si w
theorem Ints.off {w w' : World} {A : Option Addr} {l : List Int} {g : Nat} (h : Ints .i64 w w.heap.size A l) (hg : w.grownBy w' (some g)) (hA : ∀ a, A = some a → a.block ≠ g) : Ints .i64 w' w'.heap.size A l := fun h0 => by
  obtain ⟨b, off, rfl, hB, hc⟩ := h h0
  have hb := hA _ rfl
  exact ⟨b, off, rfl, Nat.lt_of_lt_of_le hB hg.size, fun i hi => by rw [← hc i hi]; exact World.cell?_of_block (hg.block b hB (fun e => by injection e with e; exact hb e))⟩
theorem Cls.offC {w w' : World} {A : Option Addr} {C : List Cl} {g : Nat} (h : Cls w w.heap.size A C) (hg : w.grownBy w' (some g)) (hA : 0 < C.length → ∀ a, A = some a → a.block ≠ g) : Cls w' w'.heap.size A C := fun h0 => by
  obtain ⟨b, off, rfl, hB, hc⟩ := h h0
  have hb := hA h0 _ rfl
  have hcell : ∀ o, w'.cell? ⟨b, o, none⟩ = w.cell? ⟨b, o, none⟩ := fun o => World.cell?_of_block (hg.block b hB (fun e => by injection e with e; exact hb e))
  exact ⟨b, off, rfl, Nat.lt_of_lt_of_le hB hg.size, fun j hj => ⟨(hcell _).trans (hc j hj).1, (hcell _).trans (hc j hj).2.1, (hcell _).trans (hc j hj).2.2.1, (hcell _).trans (hc j hj).2.2.2.1, (hcell _).trans (hc j hj).2.2.2.2⟩⟩
set_option maxRecDepth 20000 in
set_option maxHeartbeats 40000000 in
theorem rdecide_any (per cap hold lock ph gr : Int) (A : Option Addr) (n c : Nat) (E0 : List Int) (D : Option Addr) (d : Nat) (C : List Cl) (now : Int) (w : World) (hn : E0.length = n) (hI : Ints .i64 w w.heap.size A E0) (hl : n ≤ 1000000) (hS : Small E0) (hper : 1 ≤ per ∧ per ≤ 10000) (hcap : 0 ≤ cap ∧ cap ≤ 1000) (hlock : 0 ≤ lock ∧ lock ≤ 1000) (hnow : 0 ≤ now ∧ now ≤ 10000)
    (hC : Cls w w.heap.size D C) (hok : AllOk C) (hml : C.length ≤ 1000000) (hsi : ∀ x ∈ C, x.si ≤ now) (hup : ∀ y ∈ E0, y ≤ now) :
    Calls Try.prog 22 #[.agg #[.slice none 0 0, .slice none 0 0, .int .i64 per, .int .i64 cap, .int .i64 hold, .int .i64 lock], .agg #[.int .i64 ph, .int .i64 gr, .slice A n c], .slice D C.length d, .int .i64 now] w fun e w' => SvI w (decT per cap hold lock ph gr E0 C now).1 (decT per cap hold lock ph gr E0 C now).2.1 n (decT per cap hold lock ph gr E0 C now).2.2 e w' := by
  have bX := lat_alloc (lat_alloc (lat_alloc (Below.refl w.heap.size w) (.cells #[.slice none 0 0, .slice none 0 0, .int .i64 per, .int .i64 cap, .int .i64 hold, .int .i64 lock] 33)) (.cells #[.int .i64 ph, .int .i64 gr, .slice A n c] 24)) (.cells #[.int .i64 0, .int .i64 0, .slice none 0 0] 24)
  have B0 := ((Blk.new (w := w) (t := 33) (cs := #[.slice none 0 0, .slice none 0 0, .int .i64 per, .int .i64 cap, .int .i64 hold, .int .i64 lock])).alloc (.cells #[.int .i64 ph, .int .i64 gr, .slice A n c] 24)).alloc (.cells #[.int .i64 0, .int .i64 0, .slice none 0 0] 24)
  have B1 := (Blk.new (w := w.alloc (.cells #[.slice none 0 0, .slice none 0 0, .int .i64 per, .int .i64 cap, .int .i64 hold, .int .i64 lock] 33)) (t := 24) (cs := #[.int .i64 ph, .int .i64 gr, .slice A n c])).alloc (.cells #[.int .i64 0, .int .i64 0, .slice none 0 0] 24)
  have B2 := Blk.new (w := (w.alloc (.cells #[.slice none 0 0, .slice none 0 0, .int .i64 per, .int .i64 cap, .int .i64 hold, .int .i64 lock] 33)).alloc (.cells #[.int .i64 ph, .int .i64 gr, .slice A n c] 24)) (t := 24) (cs := #[.int .i64 0, .int .i64 0, .slice none 0 0])
  rw [heap_size] at B1
  rw [heap_size, heap_size] at B2
  have hIX := hI.grow bX
  have hCX := hC.grow bX
  go_enter Try.func22, Try.ntmps22
  go_wp2_with fail
  have hltW := B2.lt
  generalize (((w.alloc (.cells #[.slice none 0 0, .slice none 0 0, .int .i64 per, .int .i64 cap, .int .i64 hold, .int .i64 lock] 33)).alloc (.cells #[.int .i64 ph, .int .i64 gr, .slice A n c] 24)).alloc (.cells #[.int .i64 0, .int .i64 0, .slice none 0 0] 24)) = W at *
  refine (rcopy_any ph gr A n c E0 W hn hIX hl).mono ?_
  rintro e w2 ⟨A2, c2, rfl, hb2, own⟩
  have hI2 := own.intsN.1
  have hfar : ∀ a, A2 = some a → W.heap.size ≤ a.block ∧ a.block < w2.heap.size := fun a ha => by subst ha; exact own.lt rfl
  have bN := lat_alloc (Below.refl w2.heap.size w2) (.cells #[.int .i64 ph, .int .i64 gr, .slice A2 n c2] 24)
  have C5 := Blk.new (w := w2) (t := 24) (cs := #[.int .i64 ph, .int .i64 gr, .slice A2 n c2])
  have C0 := (B0.below hb2).below bN
  have C1 := (B1.below hb2).below bN
  have C2 := (B2.below hb2).below bN
  have hI5 := hI2.grow bN
  have hC5 := (hCX.grow hb2).grow bN
  have bz := bX.trans ((hb2.trans (bN.mono hb2.size)).mono bX.size)
  have hW2 := hb2.size
  have hCne : 0 < C.length → ∀ a, D = some a → a.block ≠ w2.heap.size := fun h0 a ha => by
    obtain ⟨b, off, h1, h2, _⟩ := hC h0
    rw [ha] at h1
    injection h1 with h1
    subst h1
    show b ≠ w2.heap.size
    have h2 : b < w.heap.size := h2
    omega
  have HN := Lib.hid hn
  clear hn hI hIX hC hCX B0 B1 B2 bX hb2 bN own hI2
  by_cases hph0 : ph = -1
  · have HM : Hid (midT hold ph gr E0 C now = (-1, gr, E0)) := Lib.hid (by unfold midT; rw [if_neg (by rw [hph0]; simp)]; rw [hph0])
    subst hph0
    have o0 := C1.at 0 rfl
    have o1 := C1.at 1 rfl
    have o2 := C1.at 2 rfl
    obtain ⟨t0, t1, t2, f0, f1, f2⟩ := C5.three
    have r0 := C0.at 0 rfl
    have r1 := C0.at 1 rfl
    have r2 := C0.at 2 rfl
    have r3 := C0.at 3 rfl
    have r4 := C0.at 4 rfl
    have r5 := C0.at 5 rfl
    go_wp2_with fail
    clear o0 o1 o2 r0 r1 r2 r3 r4 r5 t0 t1 t2 f0 f1 f2
    generalize w2.alloc (.cells #[.int .i64 (-1), .int .i64 gr, .slice A2 n c2] 24) = WT at *
    generalize w2.heap.size = g5 at *
    refine (rbest_of per cap hold lock (-1) gr A2 c2 n E0 now D d C WT (fun x y w hs hx hy h1 h2 => rless_any per cap hold lock (-1) gr A2 c2 n E0 now x y w HN.out hs hl hS hper hcap hlock hnow hx hy h1 h2) HN.out hI5 hl hS hlock hnow hC5 hok (fun x hx => start_le hup (hsi x hx) (by omega)) hml).mono ?_
    rintro e w8 ⟨rfl, hb8⟩
    have Q2 := C2.below hb8
    have Q5 := C5.below hb8
    have QI := hI5.grow hb8
    have QC := hC5.grow hb8
    have Qz := bz.trans (hb8.mono bz.size)
    have hs8 := hb8.size
    have hbd := bestK_bd per cap lock (E0) now C C.length
    generalize hbk : bestK per cap lock (E0) now C C.length = bk at *
    obtain ⟨t0, t1, t2, f0, f1, f2⟩ := Q5.three
    obtain ⟨u0, u1, u2, h0, h1, h2⟩ := Q2.three
    have hfar8 := (show ∀ a, A2 = some a → w.heap.size ≤ a.block ∧ a.block ≠ g5 ∧ a.block ≠ w.heap.size + 1 + 1 from fun a ha => by have := hfar a ha; omega)
    have hne1 : g5 ≠ w.heap.size + 1 + 1 := by omega
    have hne2 : w.heap.size + 1 + 1 ≠ g5 := by omega
    have hg5w : w.heap.size ≤ g5 := by omega
    by_cases qb : 0 ≤ bk
    · obtain ⟨k, rfl⟩ := Int.eq_ofNat_of_zero_le qb
      have hkl : k < C.length := by omega
      have HR : Hid (decT per cap hold lock (-1) gr E0 C now = ((clAt C k).ph, 0, E0)) := Lib.hid (by unfold decT; rw [HM.out]; simp only [ne_eq, not_true_eq_false, if_false]; rw [hbk, if_pos qb]; rfl)
      obtain ⟨b, off, hDD, hB, j0, j1, j2, j3, j4⟩ := QC.at hkl
      subst hDD
      have zb : decide ((k : Int) ≥ 0) = true := by simp
      clear hbk hbd qb
      generalize clAt C k = x at *
      go_wp2
      refine bodyPost_ret (results_cell rfl rfl (load_service (Blk.set3 ((Q2.far (p := ⟨g5, 0, none⟩) hne2 _).far (p := ⟨g5, 1, none⟩) hne2 _) _ _ _))) rfl ?_
      rw [HR.out]
      exact ⟨A2, c2, rfl, below_set3 ((Qz.setCell (p := ⟨g5, 0, none⟩) hg5w _).setCell (p := ⟨g5, 1, none⟩) hg5w _) (by omega) _ _ _, (((QI.set1 (b := g5) (fun a ha => (hfar8 a ha).2.1) _).set1 (b := g5) (fun a ha => (hfar8 a ha).2.1) _).set3 (fun a ha => (hfar8 a ha).2.2) _ _ _), HN.out, fun a ha => (hfar8 a ha).1⟩
    · have HR : Hid (decT per cap hold lock (-1) gr E0 C now = (-1, gr, E0)) := Lib.hid (by unfold decT; rw [HM.out]; simp only [ne_eq, not_true_eq_false, if_false]; rw [hbk, if_neg qb])
      have zb : decide (bk ≥ 0) = false := by simpa using qb
      clear hbk hbd qb
      go_wp2
      refine bodyPost_ret (results_cell rfl rfl (load_service (Blk.set3 Q2 _ _ _))) rfl ?_
      rw [HR.out]
      exact ⟨A2, c2, rfl, below_set3 Qz (by omega) _ _ _, QI.set3 (fun a ha => (hfar8 a ha).2.2) _ _ _, HN.out, fun a ha => (hfar8 a ha).1⟩
  · have HQ0 := Lib.hid hph0
    have z0 : (ph != -1) = true := by simpa using hph0
    clear hph0
    have o0 := C1.at 0 rfl
    have o1 := C1.at 1 rfl
    have o2 := C1.at 2 rfl
    obtain ⟨t0, t1, t2, f0, f1, f2⟩ := C5.three
    go_wp2_with fail
    clear o0 o1 o2 t0 t1 t2 f0 f1 f2
    have hg5 : w2.heap.size < (w2.alloc (.cells #[.int .i64 ph, .int .i64 gr, .slice A2 n c2] 24)).heap.size := C5.lt
    generalize w2.alloc (.cells #[.int .i64 ph, .int .i64 gr, .slice A2 n c2] 24) = W5 at *
    generalize w2.heap.size = g5 at *
    go_loopw [10, 11, 12, 23] (fun q o u i wr => ∃ (k : Nat) (bq bo bu : Bool), k ≤ C.length ∧ i = .int .i64 k ∧ q = .bool bq ∧ o = .bool bo ∧ u = .bool bu ∧ Below W5.heap.size W5 wr ∧ Hid ((C.any fun z => z.ph == ph) = (bq || ((C.drop k).any fun z => z.ph == ph))) ∧ Hid ((C.any fun z => z.ph == ph && emB z.cl) = (bo || ((C.drop k).any fun z => z.ph == ph && emB z.cl))) ∧ Hid ((C.any fun z => emB z.cl) = (bu || ((C.drop k).any fun z => emB z.cl)))) (fun _ _ _ i _ => C.length - (intOf i).toNat)
    case atStart => exact ⟨0, false, false, false, by omega, rfl, rfl, rfl, rfl, Below.refl _ _, Lib.hid (by simp), Lib.hid (by simp), Lib.hid (by simp)⟩
    case round =>
      obtain ⟨k, bq, bo, bu, hk, rfl, rfl, rfl, rfl, hbq, HQ, HO, HU⟩ := hrel
      by_cases hlt : k < C.length
      · have hlt' : (k : Int) < C.length := by omega
        obtain ⟨bb, off, hDD, hB, j0, j1, j2, j3, j4⟩ := (hC5.grow hbq).at hlt
        subst hDD
        have HD := Lib.hid (drop_cl hlt)
        generalize clAt C k = x at *
        have bL := lat_alloc (Below.refl wr.heap.size wr) (.cells #[.int .i64 x.ag, .int .i64 x.id, .int .i64 x.ph, .int .i64 x.cl, .int .i64 x.si] 47)
        have BL := Blk.new (w := wr) (t := 47) (cs := #[.int .i64 x.ag, .int .i64 x.id, .int .i64 x.ph, .int .i64 x.cl, .int .i64 x.si])
        have BT := (C1.below hbq).below bL
        have hbL := hbq.trans (bL.mono hbq.size)
        have o0 := BT.at 0 rfl
        have o1 := BT.at 1 rfl
        have o2 := BT.at 2 rfl
        cases hem : emB x.cl <;> cases heq : (x.ph == ph) <;> cases bq <;> cases bo <;> cases bu
        all_goals (
          have HEM := Lib.hid hem
          have HEQ := Lib.hid heq
          clear hem
          go_wp2_with (go_at_call 32; refine (rem_c x _ HEM.out).mono ?_; rintro e wq ⟨rfl, hwq⟩; have BL := BL.below hwq; have BT := BT.below hwq; have hbL := hbL.trans (hwq.mono hbL.size); have o0 := BT.at 0 rfl; have o1 := BT.at 1 rfl; have o2 := BT.at 2 rfl; have i2 := BL.at 2 rfl; have i0 := BL.at 0 rfl; have i1 := BL.at 1 rfl; have i3 := BL.at 3 rfl; have i4 := BL.at 4 rfl)
          go_roundw
          case rel => exact ⟨k + 1, _, _, _, by omega, by go_num, rfl, rfl, rfl, hbL, Lib.hid (by rw [HQ.out, HD.out, List.any_cons]; simp [HEQ.out]), Lib.hid (by rw [HO.out, HD.out, List.any_cons]; simp [HEM.out, HEQ.out]), Lib.hid (by rw [HU.out, HD.out, List.any_cons]; simp [HEM.out])⟩
          case measure => simp [intOf]; omega)
      · have hnil : C.drop k = [] := List.drop_eq_nil_of_le (by omega)
        have HE1 : Hid ((C.any fun z => z.ph == ph) = bq) := Lib.hid (by rw [HQ.out, hnil]; simp)
        have HE2 : Hid ((C.any fun z => z.ph == ph && emB z.cl) = bo) := Lib.hid (by rw [HO.out, hnil]; simp)
        have HE3 : Hid ((C.any fun z => emB z.cl) = bu) := Lib.hid (by rw [HU.out, hnil]; simp)
        have L0 := C0.below hbq
        have L1 := C1.below hbq
        have L2 := C2.below hbq
        have L5 := C5.below hbq
        have LI := hI5.grow hbq
        have LC := hC5.grow hbq
        have Lz := bz.trans (hbq.mono bz.size)
        clear HQ HO HU hnil C0 C1 C2 C5 hI5 hC5 bz
        cases bq with
        | false =>
          have HV : Hid (overB hold ph gr C = true) := Lib.hid (by unfold overB; rw [HE1.out, HE2.out, HE3.out]; simp)
          have HM : Hid (midT hold ph gr E0 C now = (-1, 0, endE ph gr E0 now)) := Lib.hid (by unfold midT; rw [if_pos ⟨HQ0.out, HV.out⟩])
          have o0 := L1.at 0 rfl
          have o1 := L1.at 1 rfl
          have o2 := L1.at 2 rfl
          have r0 := L0.at 0 rfl
          have r1 := L0.at 1 rfl
          have r2 := L0.at 2 rfl
          have r3 := L0.at 3 rfl
          have r4 := L0.at 4 rfl
          have r5 := L0.at 5 rfl
          obtain ⟨t0, t1, t2, f0, f1, f2⟩ := L5.three
          go_wp2_with fail
          clear o0 o1 o2 r0 r1 r2 r3 r4 r5 t0 t1 t2 f0 f1 f2
          refine (rend_any ph gr A2 n c2 E0 now wr HN.out LI hl).mono ?_
          rintro e w4 ⟨A4, c4, rfl, hb4, hI4, hn4, hf4⟩
          have M1 := L1.below hb4
          have M0 := L0.below hb4
          have M2 := L2.below hb4
          have M5 := L5.below hb4
          have MC := LC.grow hb4
          have Mz := Lz.trans (hb4.mono Lz.size)
          have hs4 := hb4.size
          have hltr := L5.lt
          go_wp2_with (show wpList _ _ _ (Oper.mk none (.store _ (.tmp 9) (.tmp 71)) _ _ _ _ :: _) _ _; refine wpList_store3 rfl rfl rfl rfl rfl M5 ⟨rfl, rfl, rfl⟩ ⟨_, _, rfl⟩ ⟨_, _, rfl⟩ ⟨_, _, _, rfl⟩ ?_; intro w5 N5 g55; have N0 := M0.grown g55 (by intro e; injection e with e; omega); have N1 := M1.grown g55 (by intro e; injection e with e; omega); have N2 := M2.grown g55 (by intro e; injection e with e; omega); have Nz := Mz.grown g55 Mz.size (fun k e => by injection e with e; omega); have NI := hI4.off g55 (fun a ha => by have := hf4 a ha; omega); have NC := MC.offC g55 hCne; have o0 := N1.at 0 rfl; have o1 := N1.at 1 rfl; have o2 := N1.at 2 rfl; have r0 := N0.at 0 rfl; have r1 := N0.at 1 rfl; have r2 := N0.at 2 rfl; have r3 := N0.at 3 rfl; have r4 := N0.at 4 rfl; have r5 := N0.at 5 rfl; obtain ⟨t0, t1, t2, f0, f1, f2⟩ := N5.three)
          clear o0 o1 o2 r0 r1 r2 r3 r4 r5 t0 t1 t2 f0 f1 f2
          have hs5 := g55.size
          have hSE := small_end hS (ph := ph) (gr := gr) hnow
          have hUE : ∀ y ∈ endE ph gr E0 now, y ≤ now := up_end hup
          generalize endE ph gr E0 now = E5 at *
          generalize hWT : w5 = WT at *
          refine (rbest_of per cap hold lock (-1) 0 A4 c4 n E5 now D d C WT (fun x y w hs hx hy h1 h2 => rless_any per cap hold lock (-1) 0 A4 c4 n E5 now x y w hn4 hs hl hSE hper hcap hlock hnow hx hy h1 h2) hn4 NI hl hSE hlock hnow NC hok (fun x hx => start_le hUE (hsi x hx) (by omega)) hml).mono ?_
          rintro e w8 ⟨rfl, hb8⟩
          have Q2 := N2.below hb8
          have Q5 := N5.below hb8
          have QI := NI.grow hb8
          have QC := NC.grow hb8
          have Qz := Nz.trans (hb8.mono Nz.size)
          have hs8 := hb8.size
          have hbd := bestK_bd per cap lock (E5) now C C.length
          generalize hbk : bestK per cap lock (E5) now C C.length = bk at *
          obtain ⟨t0, t1, t2, f0, f1, f2⟩ := Q5.three
          obtain ⟨u0, u1, u2, h0, h1, h2⟩ := Q2.three
          have hf4b : ∀ a, A4 = some a → w.heap.size ≤ a.block ∧ a.block ≠ g5 ∧ a.block ≠ w.heap.size + 1 + 1 := fun a ha => by have := hf4 a ha; omega
          have hfar8 := (show ∀ a, A4 = some a → w.heap.size ≤ a.block ∧ a.block ≠ g5 ∧ a.block ≠ w.heap.size + 1 + 1 from fun a ha => by have := hf4b a ha; omega)
          have hne1 : g5 ≠ w.heap.size + 1 + 1 := by omega
          have hne2 : w.heap.size + 1 + 1 ≠ g5 := by omega
          have hg5w : w.heap.size ≤ g5 := by omega
          by_cases qb : 0 ≤ bk
          · obtain ⟨k, rfl⟩ := Int.eq_ofNat_of_zero_le qb
            have hkl : k < C.length := by omega
            have HR : Hid (decT per cap hold lock ph gr E0 C now = ((clAt C k).ph, 0, E5)) := Lib.hid (by unfold decT; rw [HM.out]; simp only [ne_eq, not_true_eq_false, if_false]; rw [hbk, if_pos qb]; rfl)
            obtain ⟨b, off, hDD, hB, j0, j1, j2, j3, j4⟩ := QC.at hkl
            subst hDD
            have zb : decide ((k : Int) ≥ 0) = true := by simp
            clear hbk hbd qb
            generalize clAt C k = x at *
            go_wp2
            refine bodyPost_ret (results_cell rfl rfl (load_service (Blk.set3 ((Q2.far (p := ⟨g5, 0, none⟩) hne2 _).far (p := ⟨g5, 1, none⟩) hne2 _) _ _ _))) rfl ?_
            rw [HR.out]
            exact ⟨A4, c4, rfl, below_set3 ((Qz.setCell (p := ⟨g5, 0, none⟩) hg5w _).setCell (p := ⟨g5, 1, none⟩) hg5w _) (by omega) _ _ _, (((QI.set1 (b := g5) (fun a ha => (hfar8 a ha).2.1) _).set1 (b := g5) (fun a ha => (hfar8 a ha).2.1) _).set3 (fun a ha => (hfar8 a ha).2.2) _ _ _), hn4, fun a ha => (hfar8 a ha).1⟩
          · have HR : Hid (decT per cap hold lock ph gr E0 C now = (-1, 0, E5)) := Lib.hid (by unfold decT; rw [HM.out]; simp only [ne_eq, not_true_eq_false, if_false]; rw [hbk, if_neg qb])
            have zb : decide (bk ≥ 0) = false := by simpa using qb
            clear hbk hbd qb
            go_wp2
            refine bodyPost_ret (results_cell rfl rfl (load_service (Blk.set3 Q2 _ _ _))) rfl ?_
            rw [HR.out]
            exact ⟨A4, c4, rfl, below_set3 Qz (by omega) _ _ _, QI.set3 (fun a ha => (hfar8 a ha).2.2) _ _ _, hn4, fun a ha => (hfar8 a ha).1⟩
        | true =>
          by_cases q1 : hold ≤ gr
          · have z1 : decide (gr ≥ hold) = true := by simpa using q1
            have HV : Hid (overB hold ph gr C = true) := Lib.hid (by unfold overB; rw [HE1.out, HE2.out, HE3.out]; simp [q1])
            have HM : Hid (midT hold ph gr E0 C now = (-1, 0, endE ph gr E0 now)) := Lib.hid (by unfold midT; rw [if_pos ⟨HQ0.out, HV.out⟩])
            clear q1
            have o0 := L1.at 0 rfl
            have o1 := L1.at 1 rfl
            have o2 := L1.at 2 rfl
            have r0 := L0.at 0 rfl
            have r1 := L0.at 1 rfl
            have r2 := L0.at 2 rfl
            have r3 := L0.at 3 rfl
            have r4 := L0.at 4 rfl
            have r5 := L0.at 5 rfl
            obtain ⟨t0, t1, t2, f0, f1, f2⟩ := L5.three
            go_wp2_with fail
            clear o0 o1 o2 r0 r1 r2 r3 r4 r5 t0 t1 t2 f0 f1 f2
            refine (rend_any ph gr A2 n c2 E0 now wr HN.out LI hl).mono ?_
            rintro e w4 ⟨A4, c4, rfl, hb4, hI4, hn4, hf4⟩
            have M1 := L1.below hb4
            have M0 := L0.below hb4
            have M2 := L2.below hb4
            have M5 := L5.below hb4
            have MC := LC.grow hb4
            have Mz := Lz.trans (hb4.mono Lz.size)
            have hs4 := hb4.size
            have hltr := L5.lt
            go_wp2_with (show wpList _ _ _ (Oper.mk none (.store _ (.tmp 9) (.tmp 71)) _ _ _ _ :: _) _ _; refine wpList_store3 rfl rfl rfl rfl rfl M5 ⟨rfl, rfl, rfl⟩ ⟨_, _, rfl⟩ ⟨_, _, rfl⟩ ⟨_, _, _, rfl⟩ ?_; intro w5 N5 g55; have N0 := M0.grown g55 (by intro e; injection e with e; omega); have N1 := M1.grown g55 (by intro e; injection e with e; omega); have N2 := M2.grown g55 (by intro e; injection e with e; omega); have Nz := Mz.grown g55 Mz.size (fun k e => by injection e with e; omega); have NI := hI4.off g55 (fun a ha => by have := hf4 a ha; omega); have NC := MC.offC g55 hCne; have o0 := N1.at 0 rfl; have o1 := N1.at 1 rfl; have o2 := N1.at 2 rfl; have r0 := N0.at 0 rfl; have r1 := N0.at 1 rfl; have r2 := N0.at 2 rfl; have r3 := N0.at 3 rfl; have r4 := N0.at 4 rfl; have r5 := N0.at 5 rfl; obtain ⟨t0, t1, t2, f0, f1, f2⟩ := N5.three)
            clear o0 o1 o2 r0 r1 r2 r3 r4 r5 t0 t1 t2 f0 f1 f2
            have hs5 := g55.size
            have hSE := small_end hS (ph := ph) (gr := gr) hnow
            have hUE : ∀ y ∈ endE ph gr E0 now, y ≤ now := up_end hup
            generalize endE ph gr E0 now = E5 at *
            generalize hWT : w5 = WT at *
            refine (rbest_of per cap hold lock (-1) 0 A4 c4 n E5 now D d C WT (fun x y w hs hx hy h1 h2 => rless_any per cap hold lock (-1) 0 A4 c4 n E5 now x y w hn4 hs hl hSE hper hcap hlock hnow hx hy h1 h2) hn4 NI hl hSE hlock hnow NC hok (fun x hx => start_le hUE (hsi x hx) (by omega)) hml).mono ?_
            rintro e w8 ⟨rfl, hb8⟩
            have Q2 := N2.below hb8
            have Q5 := N5.below hb8
            have QI := NI.grow hb8
            have QC := NC.grow hb8
            have Qz := Nz.trans (hb8.mono Nz.size)
            have hs8 := hb8.size
            have hbd := bestK_bd per cap lock (E5) now C C.length
            generalize hbk : bestK per cap lock (E5) now C C.length = bk at *
            obtain ⟨t0, t1, t2, f0, f1, f2⟩ := Q5.three
            obtain ⟨u0, u1, u2, h0, h1, h2⟩ := Q2.three
            have hf4b : ∀ a, A4 = some a → w.heap.size ≤ a.block ∧ a.block ≠ g5 ∧ a.block ≠ w.heap.size + 1 + 1 := fun a ha => by have := hf4 a ha; omega
            have hfar8 := (show ∀ a, A4 = some a → w.heap.size ≤ a.block ∧ a.block ≠ g5 ∧ a.block ≠ w.heap.size + 1 + 1 from fun a ha => by have := hf4b a ha; omega)
            have hne1 : g5 ≠ w.heap.size + 1 + 1 := by omega
            have hne2 : w.heap.size + 1 + 1 ≠ g5 := by omega
            have hg5w : w.heap.size ≤ g5 := by omega
            by_cases qb : 0 ≤ bk
            · obtain ⟨k, rfl⟩ := Int.eq_ofNat_of_zero_le qb
              have hkl : k < C.length := by omega
              have HR : Hid (decT per cap hold lock ph gr E0 C now = ((clAt C k).ph, 0, E5)) := Lib.hid (by unfold decT; rw [HM.out]; simp only [ne_eq, not_true_eq_false, if_false]; rw [hbk, if_pos qb]; rfl)
              obtain ⟨b, off, hDD, hB, j0, j1, j2, j3, j4⟩ := QC.at hkl
              subst hDD
              have zb : decide ((k : Int) ≥ 0) = true := by simp
              clear hbk hbd qb
              generalize clAt C k = x at *
              go_wp2
              refine bodyPost_ret (results_cell rfl rfl (load_service (Blk.set3 ((Q2.far (p := ⟨g5, 0, none⟩) hne2 _).far (p := ⟨g5, 1, none⟩) hne2 _) _ _ _))) rfl ?_
              rw [HR.out]
              exact ⟨A4, c4, rfl, below_set3 ((Qz.setCell (p := ⟨g5, 0, none⟩) hg5w _).setCell (p := ⟨g5, 1, none⟩) hg5w _) (by omega) _ _ _, (((QI.set1 (b := g5) (fun a ha => (hfar8 a ha).2.1) _).set1 (b := g5) (fun a ha => (hfar8 a ha).2.1) _).set3 (fun a ha => (hfar8 a ha).2.2) _ _ _), hn4, fun a ha => (hfar8 a ha).1⟩
            · have HR : Hid (decT per cap hold lock ph gr E0 C now = (-1, 0, E5)) := Lib.hid (by unfold decT; rw [HM.out]; simp only [ne_eq, not_true_eq_false, if_false]; rw [hbk, if_neg qb])
              have zb : decide (bk ≥ 0) = false := by simpa using qb
              clear hbk hbd qb
              go_wp2
              refine bodyPost_ret (results_cell rfl rfl (load_service (Blk.set3 Q2 _ _ _))) rfl ?_
              rw [HR.out]
              exact ⟨A4, c4, rfl, below_set3 Qz (by omega) _ _ _, QI.set3 (fun a ha => (hfar8 a ha).2.2) _ _ _, hn4, fun a ha => (hfar8 a ha).1⟩
          · have z1 : decide (gr ≥ hold) = false := by simpa using q1
            cases bu with
            | false =>
              have HV : Hid (overB hold ph gr C = false) := Lib.hid (by unfold overB; rw [HE1.out, HE2.out, HE3.out]; simp; omega)
              clear q1
              have HR : Hid (decT per cap hold lock ph gr E0 C now = (ph, gr, E0)) := Lib.hid (by
                have hM : midT hold ph gr E0 C now = (ph, gr, E0) := by unfold midT; rw [if_neg (by rw [HV.out]; simp)]
                unfold decT; rw [hM, if_pos (show (ph, gr, E0).1 ≠ -1 from HQ0.out)])
              have zq : (ph == -1) = false := by simpa using HQ0.out
              have o0 := L1.at 0 rfl
              have o1 := L1.at 1 rfl
              have o2 := L1.at 2 rfl
              have r0 := L0.at 0 rfl
              have r1 := L0.at 1 rfl
              have r2 := L0.at 2 rfl
              have r3 := L0.at 3 rfl
              have r4 := L0.at 4 rfl
              have r5 := L0.at 5 rfl
              obtain ⟨t0, t1, t2, f0, f1, f2⟩ := L5.three
              obtain ⟨u0, u1, u2, h0, h1, h2⟩ := L2.three
              have hne2 : w.heap.size + 1 + 1 ≠ g5 := by omega
              go_wp2
              refine bodyPost_ret (results_cell rfl rfl (load_service (Blk.set3 L2 _ _ _))) rfl ?_
              rw [HR.out]
              exact ⟨A2, c2, rfl, below_set3 Lz (by omega) _ _ _, LI.set3 (fun a ha => by have := hfar a ha; omega) _ _ _, HN.out, fun a ha => by have := hfar a ha; omega⟩
            | true =>
              cases bo with
              | false =>
                have HV : Hid (overB hold ph gr C = true) := Lib.hid (by unfold overB; rw [HE1.out, HE2.out, HE3.out]; simp)
                have HM : Hid (midT hold ph gr E0 C now = (-1, 0, endE ph gr E0 now)) := Lib.hid (by unfold midT; rw [if_pos ⟨HQ0.out, HV.out⟩])
                clear q1
                have o0 := L1.at 0 rfl
                have o1 := L1.at 1 rfl
                have o2 := L1.at 2 rfl
                have r0 := L0.at 0 rfl
                have r1 := L0.at 1 rfl
                have r2 := L0.at 2 rfl
                have r3 := L0.at 3 rfl
                have r4 := L0.at 4 rfl
                have r5 := L0.at 5 rfl
                obtain ⟨t0, t1, t2, f0, f1, f2⟩ := L5.three
                go_wp2_with fail
                clear o0 o1 o2 r0 r1 r2 r3 r4 r5 t0 t1 t2 f0 f1 f2
                refine (rend_any ph gr A2 n c2 E0 now wr HN.out LI hl).mono ?_
                rintro e w4 ⟨A4, c4, rfl, hb4, hI4, hn4, hf4⟩
                have M1 := L1.below hb4
                have M0 := L0.below hb4
                have M2 := L2.below hb4
                have M5 := L5.below hb4
                have MC := LC.grow hb4
                have Mz := Lz.trans (hb4.mono Lz.size)
                have hs4 := hb4.size
                have hltr := L5.lt
                go_wp2_with (show wpList _ _ _ (Oper.mk none (.store _ (.tmp 9) (.tmp 71)) _ _ _ _ :: _) _ _; refine wpList_store3 rfl rfl rfl rfl rfl M5 ⟨rfl, rfl, rfl⟩ ⟨_, _, rfl⟩ ⟨_, _, rfl⟩ ⟨_, _, _, rfl⟩ ?_; intro w5 N5 g55; have N0 := M0.grown g55 (by intro e; injection e with e; omega); have N1 := M1.grown g55 (by intro e; injection e with e; omega); have N2 := M2.grown g55 (by intro e; injection e with e; omega); have Nz := Mz.grown g55 Mz.size (fun k e => by injection e with e; omega); have NI := hI4.off g55 (fun a ha => by have := hf4 a ha; omega); have NC := MC.offC g55 hCne; have o0 := N1.at 0 rfl; have o1 := N1.at 1 rfl; have o2 := N1.at 2 rfl; have r0 := N0.at 0 rfl; have r1 := N0.at 1 rfl; have r2 := N0.at 2 rfl; have r3 := N0.at 3 rfl; have r4 := N0.at 4 rfl; have r5 := N0.at 5 rfl; obtain ⟨t0, t1, t2, f0, f1, f2⟩ := N5.three)
                clear o0 o1 o2 r0 r1 r2 r3 r4 r5 t0 t1 t2 f0 f1 f2
                have hs5 := g55.size
                have hSE := small_end hS (ph := ph) (gr := gr) hnow
                have hUE : ∀ y ∈ endE ph gr E0 now, y ≤ now := up_end hup
                generalize endE ph gr E0 now = E5 at *
                generalize hWT : w5 = WT at *
                refine (rbest_of per cap hold lock (-1) 0 A4 c4 n E5 now D d C WT (fun x y w hs hx hy h1 h2 => rless_any per cap hold lock (-1) 0 A4 c4 n E5 now x y w hn4 hs hl hSE hper hcap hlock hnow hx hy h1 h2) hn4 NI hl hSE hlock hnow NC hok (fun x hx => start_le hUE (hsi x hx) (by omega)) hml).mono ?_
                rintro e w8 ⟨rfl, hb8⟩
                have Q2 := N2.below hb8
                have Q5 := N5.below hb8
                have QI := NI.grow hb8
                have QC := NC.grow hb8
                have Qz := Nz.trans (hb8.mono Nz.size)
                have hs8 := hb8.size
                have hbd := bestK_bd per cap lock (E5) now C C.length
                generalize hbk : bestK per cap lock (E5) now C C.length = bk at *
                obtain ⟨t0, t1, t2, f0, f1, f2⟩ := Q5.three
                obtain ⟨u0, u1, u2, h0, h1, h2⟩ := Q2.three
                have hf4b : ∀ a, A4 = some a → w.heap.size ≤ a.block ∧ a.block ≠ g5 ∧ a.block ≠ w.heap.size + 1 + 1 := fun a ha => by have := hf4 a ha; omega
                have hfar8 := (show ∀ a, A4 = some a → w.heap.size ≤ a.block ∧ a.block ≠ g5 ∧ a.block ≠ w.heap.size + 1 + 1 from fun a ha => by have := hf4b a ha; omega)
                have hne1 : g5 ≠ w.heap.size + 1 + 1 := by omega
                have hne2 : w.heap.size + 1 + 1 ≠ g5 := by omega
                have hg5w : w.heap.size ≤ g5 := by omega
                by_cases qb : 0 ≤ bk
                · obtain ⟨k, rfl⟩ := Int.eq_ofNat_of_zero_le qb
                  have hkl : k < C.length := by omega
                  have HR : Hid (decT per cap hold lock ph gr E0 C now = ((clAt C k).ph, 0, E5)) := Lib.hid (by unfold decT; rw [HM.out]; simp only [ne_eq, not_true_eq_false, if_false]; rw [hbk, if_pos qb]; rfl)
                  obtain ⟨b, off, hDD, hB, j0, j1, j2, j3, j4⟩ := QC.at hkl
                  subst hDD
                  have zb : decide ((k : Int) ≥ 0) = true := by simp
                  clear hbk hbd qb
                  generalize clAt C k = x at *
                  go_wp2
                  refine bodyPost_ret (results_cell rfl rfl (load_service (Blk.set3 ((Q2.far (p := ⟨g5, 0, none⟩) hne2 _).far (p := ⟨g5, 1, none⟩) hne2 _) _ _ _))) rfl ?_
                  rw [HR.out]
                  exact ⟨A4, c4, rfl, below_set3 ((Qz.setCell (p := ⟨g5, 0, none⟩) hg5w _).setCell (p := ⟨g5, 1, none⟩) hg5w _) (by omega) _ _ _, (((QI.set1 (b := g5) (fun a ha => (hfar8 a ha).2.1) _).set1 (b := g5) (fun a ha => (hfar8 a ha).2.1) _).set3 (fun a ha => (hfar8 a ha).2.2) _ _ _), hn4, fun a ha => (hfar8 a ha).1⟩
                · have HR : Hid (decT per cap hold lock ph gr E0 C now = (-1, 0, E5)) := Lib.hid (by unfold decT; rw [HM.out]; simp only [ne_eq, not_true_eq_false, if_false]; rw [hbk, if_neg qb])
                  have zb : decide (bk ≥ 0) = false := by simpa using qb
                  clear hbk hbd qb
                  go_wp2
                  refine bodyPost_ret (results_cell rfl rfl (load_service (Blk.set3 Q2 _ _ _))) rfl ?_
                  rw [HR.out]
                  exact ⟨A4, c4, rfl, below_set3 Qz (by omega) _ _ _, QI.set3 (fun a ha => (hfar8 a ha).2.2) _ _ _, hn4, fun a ha => (hfar8 a ha).1⟩
              | true =>
                have HV : Hid (overB hold ph gr C = false) := Lib.hid (by unfold overB; rw [HE1.out, HE2.out, HE3.out]; simp; omega)
                clear q1
                have HR : Hid (decT per cap hold lock ph gr E0 C now = (ph, gr, E0)) := Lib.hid (by
                  have hM : midT hold ph gr E0 C now = (ph, gr, E0) := by unfold midT; rw [if_neg (by rw [HV.out]; simp)]
                  unfold decT; rw [hM, if_pos (show (ph, gr, E0).1 ≠ -1 from HQ0.out)])
                have zq : (ph == -1) = false := by simpa using HQ0.out
                have o0 := L1.at 0 rfl
                have o1 := L1.at 1 rfl
                have o2 := L1.at 2 rfl
                have r0 := L0.at 0 rfl
                have r1 := L0.at 1 rfl
                have r2 := L0.at 2 rfl
                have r3 := L0.at 3 rfl
                have r4 := L0.at 4 rfl
                have r5 := L0.at 5 rfl
                obtain ⟨t0, t1, t2, f0, f1, f2⟩ := L5.three
                obtain ⟨u0, u1, u2, h0, h1, h2⟩ := L2.three
                have hne2 : w.heap.size + 1 + 1 ≠ g5 := by omega
                go_wp2
                refine bodyPost_ret (results_cell rfl rfl (load_service (Blk.set3 L2 _ _ _))) rfl ?_
                rw [HR.out]
                exact ⟨A2, c2, rfl, below_set3 Lz (by omega) _ _ _, LI.set3 (fun a ha => by have := hfar a ha; omega) _ _ _, HN.out, fun a ha => by have := hfar a ha; omega⟩
end Go.Proofs.Ytikffoepndpfjaa

/-
  The law ArbiterServes answers true: its walk. Conditions: none.
-/
import Derived.Test.YtikffoepndpfjaaSp
namespace Go.Proofs.Ytikffoepndpfjaa
open Go.ChangeShapes Go.WideShapes Go.RowKit
set_option linter.unusedVariables false

set_option maxRecDepth 20000 in
set_option maxHeartbeats 40000000 in
theorem serveslaw_any (D : Option Addr) (d : Nat) (l : List Int) (w : World) (hs : Ints .i64 w w.heap.size D l) (hn0 : Nums l) (hl : l.length ≤ 9223372036854775807) :
    Calls Try.prog 4 #[.slice D l.length d] w fun e w' => e = .returned (.bool true) ∧ Below w.heap.size w w' := by
  by_cases hfew : l.length ≤ 300
  · have HF : Hid (decide (l.length ≤ 300) = true) := Lib.hid (by simpa using hfew)
    go_enter Try.func4, Try.ntmps4
    go_wp2_with fail
    refine (few_any _ _ _ _).mono ?_; rintro e w' ⟨rfl, hw'⟩; subst hw'; rw [HF.out]
    go_wp2_with fail
    refine (new_deck D l d w).mono ?_
    rintro e w1 ⟨rfl, hdk, hb1, hlt1⟩
    have hd1 : DeckR w1 w.heap.size l.length := ⟨D, l, d, 0, hdk, hs.below hb1, hn0, hl, by omega, by omega⟩
    obtain ⟨g, hgg⟩ : ∃ g, w.heap.size = g := ⟨_, rfl⟩
    have hgw : w.heap.size ≤ g := by omega
    have hgw' : g ≤ w.heap.size := by omega
    rw [hgg] at hd1 hlt1 ⊢
    have HGG := Lib.hid hgg
    clear hdk hgg
    have hb1 : Below w.heap.size w w1 := hb1
    go_wp2_with fail
    refine (range_s g 1 5 w1 hd1.ok (by omega) (by omega) (by omega)).mono ?_
    rintro e wy ⟨hGy, hdy, per, e0, e1, rfl⟩
    go_wp2_with fail
    refine (next_s g 6 wy hdy (by omega) (by omega)).mono ?_
    rintro e w2 ⟨hG2', hd2, cap, p0, p1, rfl⟩
    have hG2 := hGy.trans hG2'
    clear hGy hG2' hdy
    go_wp2_with fail
    refine (range_s g 1 4 w2 hd2 (by omega) (by omega) (by omega)).mono ?_
    rintro e w3 ⟨hG3, hd3, hold, q0, q1, rfl⟩
    go_wp2_with fail
    refine (next_s g 7 w3 hd3 (by omega) (by omega)).mono ?_
    rintro e w4 ⟨hG4, hd4, lock, s0, s1, rfl⟩
    have hG14 := (hG2.trans hG3).trans hG4
    go_wp2_with fail
    have bA := lat_alloc (Below.refl w4.heap.size w4) (.cells #[.slice none 0 0, .slice none 0 0, .int .i64 per, .int .i64 cap, .int .i64 hold, .int .i64 lock] 33)
    have BC4 := Blk.new (w := w4) (t := 33) (cs := #[.slice none 0 0, .slice none 0 0, .int .i64 per, .int .i64 cap, .int .i64 hold, .int .i64 lock])
    have hG15 := hG14.trans (Gs.of_below bA)
    have hd5 := hd4.below bA
    have hgl4 := hd4.lt
    have hcA := BC4.lt
    generalize w4.alloc (.cells #[.slice none 0 0, .slice none 0 0, .int .i64 per, .int .i64 cap, .int .i64 hold, .int .i64 lock] 33) = w5 at *
    generalize w4.heap.size = gc at *
    refine (range_s g 1 6 w5 hd5 (by omega) (by omega) (by omega)).mono ?_
    rintro e w6 ⟨hG6, hd6, nn, n0, n1, rfl⟩
    obtain ⟨n, rfl⟩ := Int.eq_ofNat_of_zero_le (show 0 ≤ nn by omega)
    have BC6 := hG6.blk BC4 (show gc ≠ g by omega)
    have hG16 := hG15.trans hG6
    go_wp2_with fail
    refine (new_any n w6 (by omega)).mono ?_
    rintro e w7 ⟨A7, c7, rfl, hb7, own7⟩
    have hsz6 := hG6.size
    have hsz7 := hb7.size
    have BC7 := BC6.below hb7
    have hG17 := hG16.trans (Gs.of_below hb7)
    have bB := lat_alloc (Below.refl w7.heap.size w7) (.cells #[.int .i64 (-1), .int .i64 0, .slice A7 n c7] 24)
    have BS8 := Blk.new (w := w7) (t := 24) (cs := #[.int .i64 (-1), .int .i64 0, .slice A7 n c7])
    have BC8 := BC7.below bB
    have hG18 := hG17.trans (Gs.of_below bB)
    have hI8 := own7.intsN.1.grow bB
    have hfar8 : ∀ a, A7 = some a → a.block ≠ g ∧ a.block ≠ w7.heap.size := fun a ha => by
      subst ha
      have := own7.lt rfl
      omega
    go_wp2_with fail
    generalize w7.alloc (.cells #[.int .i64 (-1), .int .i64 0, .slice A7 n c7] 24) = W0 at *
    have hg6 : gc < w7.heap.size := BC7.lt
    have hg60 : g < w7.heap.size := by omega
    generalize w7.heap.size = g6 at *
    have hB18 := hG18.base hb1 hgw
    obtain ⟨r0, hr0, hdr00⟩ := hG18.2 _ hd1
    have hlen8 : (List.replicate n (-1 : Int)).length = n := List.length_replicate
    clear hG2 hG3 hG4 hG14 hG15 hG16 hG17 hG18 hd2 hd3 hd4 hd5 hd6 BC4 BC6 BC7 bA bB hb7 own7 hG6 hb1
    go_loopw [7] (fun v wr => ∃ (N : Nat) (ph gr : Int) (A : Option Addr) (c : Nat) (E : List Int) (r : Nat), 1 ≤ N ∧ v = .int .i64 N ∧ (-1 ≤ ph ∧ ph < n) ∧ (0 ≤ gr ∧ gr ≤ 60) ∧ (ph = -1 → gr = 0) ∧ E.length = n ∧ (∀ x ∈ E, -1 ≤ x ∧ x < N) ∧ Blk wr gc 33 #[.slice none 0 0, .slice none 0 0, .int .i64 per, .int .i64 cap, .int .i64 hold, .int .i64 lock] ∧ Blk wr g6 24 #[.int .i64 ph, .int .i64 gr, .slice A n c] ∧ Ints .i64 wr wr.heap.size A E ∧ (∀ a, A = some a → a.block ≠ g ∧ a.block ≠ g6) ∧ Below w.heap.size w wr ∧ DeckR wr g r ∧ N + r ≤ 301) (fun _ wr => restW wr g)
    case atStart => exact ⟨1, -1, 0, A7, c7, List.replicate n (-1), r0, by omega, rfl, by omega, by omega, (fun _ => rfl), hlen8, (fun x hx => by rw [List.mem_replicate] at hx; omega), BC8, BS8, hI8, hfar8, hB18, hdr00, by omega⟩
    case round =>
      obtain ⟨N, ph, gr, A, c, E, r, hN, rfl, hph, hgr, hz0, hE, hEu, BCr, B6r, hIr, hfar, bz0, hdr0, hNr⟩ := hrel
      go_wp2_with fail
      refine (left_r g r _ hdr0).mono ?_
      rintro e wa ⟨rfl, hba⟩
      by_cases hr1 : 0 < r
      · have zr : decide (0 < r) = true := by simpa using hr1
        rw [zr]
        clear zr
        go_wp2_with fail
        refine (claims_s g r n N wa (hdr0.below hba) (by omega) (by omega)).mono ?_
        rintro e wb ⟨hGb, ⟨r1, hr1', hdb⟩, DC, dc, C, rfl, hC5, hCin, hCls, hCf⟩
        go_wp2_with fail
        refine (next_t g r1 2 wb hdb (by omega) (by omega)).mono ?_
        rintro e wc ⟨hGc, hdc, xx, x0, x1, rfl⟩
        have hszr := hba.size
        have hG := ((Gs.of_below hba).trans hGb).trans hGc
        have hga := (hdr0.below hba).lt
        have hgcl := BCr.lt
        have hg6l := B6r.lt
        have BCc := hG.blk BCr (show gc ≠ g by omega)
        have B6c := hG.blk B6r (show g6 ≠ g by omega)
        have hIc := hIr.gr hG.gr (fun a ha => (hfar a ha).1)
        have hClc := hCls.gr hGc.gr (fun a ha => by have := hCf a ha; omega)
        have bzc := hG.base bz0 hgw
        have hok : AllOk C := fun x hx => by have h := hCin x hx; have := h.ph; have := h.cl; have := h.si; exact ⟨by omega, by omega, by omega⟩
        have hSE : Small E := fun x hx => by have := hEu x hx; omega
        obtain ⟨hP, hG0, hE9e⟩ := dec_facts (per := per) (cap := cap) (hold := hold) (lock := lock) (now := N) hE hph (fun x hx => by have := (hCin x hx).ph; omega) hgr (C := C)
        have hdec := decide_any per cap hold lock ph gr A n c E DC dc C N wc hE hIc (by omega) (by omega) hSE (by omega) (by omega) (by omega) (by omega) hClc hok (by omega)
        have hserve := fun (P G : Int) (E9 : List Int) (h : decT per cap hold lock ph gr E C (N : Int) = (P, G, E9)) => dec_serves h hE hph (fun x hx => by have := (hCin x hx).ph; omega) (by omega) (by omega) hgr.1 hz0
        generalize hdt : decT per cap hold lock ph gr E C (N : Int) = dt at hP hG0 hE9e hdec
        obtain ⟨P, G, E9⟩ := dt
        have HSV := Lib.hid (hserve P G E9 hdt)
        clear hdt hserve
        have hP : -1 ≤ P ∧ P < n := hP
        have hG9 : 0 ≤ G ∧ G ≤ 60 := hG0
        have hE9e : E9 = if ph ≠ -1 ∧ overB hold ph gr C = true then endE ph gr E N else E := hE9e
        have hE9 : E9.length = n := by rw [hE9e]; split <;> simp [endE_len, hE]
        have hE9u : ∀ x ∈ E9, -1 ≤ x ∧ x ≤ N := fun x hx => by
          rw [hE9e] at hx
          split at hx
          · unfold endE at hx
            split at hx
            · rcases List.mem_or_eq_of_mem_set hx with h1 | rfl
              · have := hEu x h1; omega
              · omega
            · have := hEu x hx; omega
          · have := hEu x hx; omega
        have HP := Lib.hid hP
        have HZ : Hid (P = -1 → G = 0) := Lib.hid HSV.out.2.2.1
        have hG := hG9
        clear hE9e hG0 hG9
        have o0 := BCc.at 0 rfl
        have o1 := BCc.at 1 rfl
        have o2 := BCc.at 2 rfl
        have o3 := BCc.at 3 rfl
        have o4 := BCc.at 4 rfl
        have o5 := BCc.at 5 rfl
        have p0 := B6c.at 0 rfl
        have p1 := B6c.at 1 rfl
        have p2 := B6c.at 2 rfl
        go_wp2_with fail
        clear o0 o1 o2 o3 o4 o5 p0 p1 p2
        refine hdec.mono ?_
        rintro e wd ⟨A9, c9, rfl, hbd, own9⟩
        clear hdec
        have bD := lat_alloc (Below.refl wd.heap.size wd) (.cells #[.int .i64 P, .int .i64 G, .slice A9 n c9] 24)
        have B9 := Blk.new (w := wd) (t := 24) (cs := #[.int .i64 P, .int .i64 G, .slice A9 n c9])
        have BCd := (BCc.below hbd).below bD
        have B6d := (B6c.below hbd).below bD
        have hId := (hIc.grow hbd).grow bD
        have hI9 := (own9.intsN.1).grow bD
        have hdrd := (hdc.below hbd).below bD
        have hszc := hGc.size
        have hszb := hGb.size
        have hszd := hbd.size
        have hgc9 := hdc.lt
        have bzd := bzc.trans ((hbd.trans (bD.mono hbd.size)).mono bzc.size)
        have hfar9 : ∀ a, A9 = some a → a.block ≠ g := fun a ha => by
          subst ha
          have := own9.lt rfl
          omega
        have hneB9 : wd.heap.size ≠ g := by omega
        have hCld := (hClc.grow hbd).grow bD
        have hvd := svalid_any P G A9 n c9 E9
        have o0 := BCd.at 0 rfl
        have o1 := BCd.at 1 rfl
        have o2 := BCd.at 2 rfl
        have o3 := BCd.at 3 rfl
        have o4 := BCd.at 4 rfl
        have o5 := BCd.at 5 rfl
        have p0 := B6d.at 0 rfl
        have p1 := B6d.at 1 rfl
        have p2 := B6d.at 2 rfl
        have HE9 := Lib.hid hE9
        have HE := Lib.hid hE
        clear hE
        go_wp2_with fail
        clear o0 o1 o2 o3 o4 o5 p0 p1 p2
        generalize wd.alloc (.cells #[.int .i64 P, .int .i64 G, .slice A9 n c9] 24) = we0 at *
        generalize wd.heap.size = g9 at *
        refine (hvd we0 hE9 hI9 (by omega) (fun x hx => by have := hE9u x hx; omega) HP.out hG HZ.out).mono ?_
        rintro e we ⟨rfl, hbv⟩
        clear hvd hE9
        have B9e := B9.below hbv
        have BCe := BCd.below hbv
        have B6e := B6d.below hbv
        have I9e := hI9.grow hbv
        have Ide := hId.grow hbv
        have hde := hdrd.below hbv
        have bze := bzd.trans (hbv.mono bzd.size)
        have hCe := hCld.grow hbv
        clear B9 BCd B6d hI9 hId hdrd bzd hCld hClc
        go_wp2_with fail
        go_loopw [10, 11, 12, 62] (fun u o q i wr => ∃ (k : Nat) (bu bo bq : Bool), k ≤ C.length ∧ i = .int .i64 k ∧ u = .bool bu ∧ o = .bool bo ∧ q = .bool bq ∧ Below we.heap.size we wr ∧ Hid ((C.any fun z => emB z.cl) = (bu || ((C.drop k).any fun z => emB z.cl))) ∧ Hid ((C.any fun z => z.ph == P && emB z.cl) = (bo || ((C.drop k).any fun z => z.ph == P && emB z.cl))) ∧ Hid ((C.any fun z => z.ph == P) = (bq || ((C.drop k).any fun z => z.ph == P)))) (fun _ _ _ i _ => C.length - (intOf i).toNat)
        case atStart => exact ⟨0, false, false, false, by omega, rfl, rfl, rfl, rfl, Below.refl _ _, Lib.hid (by simp), Lib.hid (by simp), Lib.hid (by simp)⟩
        case round =>
          obtain ⟨k, bu, bo, bq, hk, rfl, rfl, rfl, rfl, hbq, HU, HO, HQ⟩ := hrel
          by_cases hlt : k < C.length
          · have hlt' : (k : Int) < C.length := by omega
            obtain ⟨bb, off, rfl, hB, j0, j1, j2, j3, j4⟩ := (hCe.grow hbq).at hlt
            have HD := Lib.hid (drop_cl hlt)
            generalize clAt C k = x at *
            have bL := lat_alloc (Below.refl wr.heap.size wr) (.cells #[.int .i64 x.ag, .int .i64 x.id, .int .i64 x.ph, .int .i64 x.cl, .int .i64 x.si] 47)
            have BL := Blk.new (w := wr) (t := 47) (cs := #[.int .i64 x.ag, .int .i64 x.id, .int .i64 x.ph, .int .i64 x.cl, .int .i64 x.si])
            have BT := (B9e.below hbq).below bL
            have hbL := hbq.trans (bL.mono hbq.size)
            have o0 := BT.at 0 rfl
            have o1 := BT.at 1 rfl
            have o2 := BT.at 2 rfl
            cases hem : emB x.cl <;> cases heq : (x.ph == P) <;> cases bu <;> cases bo <;> cases bq
            all_goals (
              have HEM := Lib.hid hem
              have HEQ := Lib.hid heq
              clear hem
              go_wp2_with (go_at_call 27; refine (em_c x _ HEM.out).mono ?_; rintro e wq ⟨rfl, hwq⟩; have BL := BL.below hwq; have BT := BT.below hwq; have hbL := hbL.trans (hwq.mono hbL.size); have o0 := BT.at 0 rfl; have o1 := BT.at 1 rfl; have o2 := BT.at 2 rfl; have s0 := BL.at 0 rfl; have s1 := BL.at 1 rfl; have s2 := BL.at 2 rfl; have s3 := BL.at 3 rfl; have s4 := BL.at 4 rfl)
              go_roundw
              case rel => exact ⟨k + 1, _, _, _, by omega, by go_num, rfl, rfl, rfl, hbL, Lib.hid (by rw [HU.out, HD.out, List.any_cons]; simp [HEM.out]), Lib.hid (by rw [HO.out, HD.out, List.any_cons]; simp [HEM.out, HEQ.out]), Lib.hid (by rw [HQ.out, HD.out, List.any_cons]; simp [HEQ.out])⟩
              case measure => simp [intOf]; omega)
          · have hnil : C.drop k = [] := List.drop_eq_nil_of_le (by omega)
            have e1 : (C.any fun z => emB z.cl) = bu := by rw [HU.out, hnil]; simp
            have e2 : (C.any fun z => z.ph == P && emB z.cl) = bo := by rw [HO.out, hnil]; simp
            have e3 : (C.any fun z => z.ph == P) = bq := by rw [HQ.out, hnil]; simp
            have hsv := HSV.out
            rw [e1, e2, e3] at hsv
            obtain ⟨f1, f2, f4, f3⟩ := hsv
            have hPP := HP.out
            have B9q := B9e.below hbq
            have BCq := BCe.below hbq
            have B6q := B6e.below hbq
            have I9q := I9e.grow hbq
            have Idq := Ide.grow hbq
            have hdq := hde.below hbq
            have bzq := bze.trans (hbq.mono bze.size)
            clear HU HO HQ hnil e1 e2 e3 HSV
            cases bu with
            | false =>
              rcases Int.lt_or_le P 0 with hP0 | hP0
              · have z1 : decide (P ≥ 0) = false := by simpa using hP0
                clear f1 f2 f3 f4 hPP
                as_aux_lemma =>
                  have o0 := B9q.at 0 rfl
                  have o1 := B9q.at 1 rfl
                  have o2 := B9q.at 2 rfl
                  have s0 := BCq.at 0 rfl
                  have s1 := BCq.at 1 rfl
                  have s2 := BCq.at 2 rfl
                  have s3 := BCq.at 3 rfl
                  have s4 := BCq.at 4 rfl
                  have s5 := BCq.at 5 rfl
                  go_wp2_with fail
                  clear o0 o1 o2 s0 s1 s2 s3 s4 s5
                  have o0 := B9q.laterN 0 rfl
                  have o1 := B9q.laterN 1 rfl
                  have o2 := B9q.laterN 2 rfl
                  have p0 := B6q.laterN 0 rfl
                  have p1 := B6q.laterN 1 rfl
                  have p2 := B6q.laterN 2 rfl
                  have s0 := BCq.laterN 0 rfl
                  have s1 := BCq.laterN 1 rfl
                  have s2 := BCq.laterN 2 rfl
                  have s3 := BCq.laterN 3 rfl
                  have s4 := BCq.laterN 4 rfl
                  have s5 := BCq.laterN 5 rfl
                  refine wp_region_grow (by kernel_rfl) (by kernel_rfl) ?_
                  repeat' (first
                      | go_big_quiet_skip
                      | (go_big_quiet_want; first
                          | (go_big_quiet_op; go_big_quiet_on)
                          | (refine quiet_det ?_; apply Exists.intro; refine ⟨fun w' hC => ?_, ?_⟩; (go_simp <;> (first | rfl | exact ⟨rfl, rfl⟩)); apply Exists.intro; refine ⟨?_, ?_⟩; (go_simp <;> (first | rfl | exact ⟨rfl, rfl⟩)); go_big_quiet_on)
                          | (show Oper.quiet _ { dst := _, op := .call { callee := .value _, args := _, argTypes := _ }, type := _, pos := _, after := _, guard := _ } _ _ _; refine quiet_call ?_; apply Exists.intro; apply Exists.intro; refine ⟨fun w' hC => ?_, ?_⟩; (go_simp <;> (first | rfl | exact ⟨rfl, rfl⟩)); apply Exists.intro; refine ⟨fun w' hC => ?_, ?_⟩; (first

                              | fail); apply Exists.intro; refine ⟨?_, ?_⟩; (go_simp <;> (first | rfl | exact ⟨rfl, rfl⟩)); go_big_quiet_on)))
                  all_goals refine wpQuiet_nil ?_
                  intro w3 hw3
                  clear o0 o1 o2 p0 p1 p2 s0 s1 s2 s3 s4 s5
                  (try clear z6); (try clear z5); (try clear z4); (try clear z3); (try clear z2); (try clear z1); (try clear hww); (try clear hx6)
                  have hneC : gc ≠ g := by omega
                  have hne6 : g6 ≠ g := by omega
                  have B9 := B9q.below hw3
                  have B6 := B6q.below hw3
                  have BC := BCq.below hw3
                  have hI9 := I9q.grow hw3
                  have hdr := hdq.below hw3
                  have hdk := hdr.ok
                  have bz := bzq.trans (hw3.mono bzq.size)
                  have hne9 := hneB9
                  have hlt9 := B9.lt
                  have hE9 := HE9.out
                  obtain ⟨r3, hr3⟩ : ∃ r3, r3 = r1 - 1 := ⟨_, rfl⟩
                  have hr3' : r3 ≤ r1 - 1 := by omega
                  rw [← hr3] at hdr
                  clear hr3 HGG
                  go_wp2_with fail
                  generalize hgW : w3 = W at *
                  clear hgW
                  refine wp_region_pre (R := (Gs g)) 5 160 [fun v _ => v = .agg #[.int .i64 P, .int .i64 G, .slice A9 n c9], fun v _ => v = .pointer (some ⟨g, 0, none⟩), fun v w => ∃ x : Int, v = .int .i64 x, fun v w => ∃ x : Bool, v = .bool x, fun v w => ∃ (A : Option Addr) (c : Nat) (y : Int), v = .agg #[.int .i64 P, .int .i64 y, .slice A n c] ∧ 0 ≤ y ∧ y ≤ 60 ∧ (P = -1 → y = 0) ∧ Ints .i64 w (w).heap.size A E9 ∧ (∀ a, A = some a → W.heap.size ≤ a.block)] (Gs.trans) (Gs.drew) (by kernel_rfl) (fun _ _ d _ _ h => by cases d <;> exact h) rfl (by kernel_rfl) (stay_cons (stays_v _) (stay_cons (stays_v _) (stay_cons (fun v _ _ h _ => h) (stay_cons (fun v _ _ h _ => h) (stay_cons (fun v w w1 h hb => by obtain ⟨A, c, y, h1, h2, h3, h6, h4, h5⟩ := h; exact ⟨A, c, y, h1, h2, h3, h6, h4.gr hb.gr (fun a ha => by have := h5 a ha; omega), h5⟩) (stay_nil)))))) ?_ ?_
                  · simp only [List.take_succ_cons, List.take_zero]
                    refine steps_cons (Gs.refl) (fun ev xw hb hc hf hfr hd hr => ?_) ?_
                    · have e9 : ev (.tmp 9) = .pointer (some ⟨g9, 0, none⟩) := hfr 9 (by kernel_rfl)
                      clear hfr hd
                      have q0 := (hb.blk B9 hne9).at 0 rfl
                      have q1 := (hb.blk B9 hne9).at 1 rfl
                      have q2 := (hb.blk B9 hne9).at 2 rfl
                      show OpOk _ _ ev xw fun v w' => (Gs g) xw w' ∧ (v = .agg #[.int .i64 P, .int .i64 G, .slice A9 n c9])
                      refine opOk_hid (fun Rp HR => ?_)
                      unfold OpOk
                      go_simp
                      rw [HR.out]
                      exact ⟨hr, rfl⟩
                    refine steps_cons (Gs.refl) (fun ev xw hb hc hf hfr hd hr => ?_) ?_
                    · have e3 : ev (.tmp 3) = .pointer (some ⟨g, 0, none⟩) := hfr 3 (by kernel_rfl)
                      clear hfr hd
                      show OpOk _ _ ev xw fun v w' => (Gs g) xw w' ∧ (v = .pointer (some ⟨g, 0, none⟩))
                      refine opOk_hid (fun Rp HR => ?_)
                      unfold OpOk
                      go_simp
                      rw [HR.out]
                      exact ⟨hr, rfl⟩
                    refine steps_cons (Gs.refl) (fun ev xw hb hc hf hfr hd hr => ?_) ?_
                    · have e155 : ev (.tmp 155) = .pointer (some ⟨g, 0, none⟩) := hd 1 155 (by kernel_rfl)
                      clear hfr hd
                      show OpOk _ _ ev xw fun v w' => (Gs g) xw w' ∧ (∃ x : Int, v = .int .i64 x)
                      refine opOk_hid (fun Rp HR => ?_)
                      unfold OpOk
                      go_simp
                      refine (next_s g 3 xw (hb.gr.2 hdk) (by omega) (by omega)).mono ?_
                      rintro e w'' ⟨hw, _, x, x0, x1, rfl⟩
                      refine ⟨_, rfl, ?_⟩
                      rw [HR.out]
                      exact ⟨hw, x, rfl⟩
                    refine steps_cons (Gs.refl) (fun ev xw hb hc hf hfr hd hr => ?_) ?_
                    · obtain ⟨x156, e156⟩ : ∃ x : Int, ev (.tmp 156) = .int .i64 x := hd 2 156 (by kernel_rfl)
                      clear hfr hd
                      show OpOk _ _ ev xw fun v w' => (Gs g) xw w' ∧ (∃ x : Bool, v = .bool x)
                      refine opOk_hid (fun Rp HR => ?_)
                      unfold OpOk
                      go_simp
                      rw [HR.out]
                      exact ⟨hr, _, rfl⟩
                    refine steps_cons (Gs.refl) (fun ev xw hb hc hf hfr hd hr => ?_) ?_
                    · have e154 : ev (.tmp 154) = .agg #[.int .i64 P, .int .i64 G, .slice A9 n c9] := hd 0 154 (by kernel_rfl)
                      obtain ⟨x157, e157⟩ : ∃ x : Bool, ev (.tmp 157) = .bool x := hd 3 157 (by kernel_rfl)
                      clear hfr hd
                      show OpOk _ _ ev xw fun v w' => (Gs g) xw w' ∧ (∃ (A : Option Addr) (c : Nat) (y : Int), v = .agg #[.int .i64 P, .int .i64 y, .slice A n c] ∧ 0 ≤ y ∧ y ≤ 60 ∧ (P = -1 → y = 0) ∧ Ints .i64 w' (w').heap.size A E9 ∧ (∀ a, A = some a → W.heap.size ≤ a.block))
                      refine opOk_hid (fun Rp HR => ?_)
                      unfold OpOk
                      go_simp
                      have hIx := hI9.gr hb.gr hfar9
                      have hszx := hb.size
                      refine (count_any P G A9 n c9 E9 x157 xw hE9 hIx (by omega) (by omega) hG).mono ?_
                      intro e w'' hS
                      obtain ⟨A, c, rfl, hw, ho⟩ := hS
                      refine ⟨_, rfl, ?_⟩
                      rw [HR.out]
                      refine ⟨Gs.of_below hw, A, c, _, rfl, (grC_bd x157 P hG).1, (grC_bd x157 P hG).2, (fun h => by unfold grC; rw [if_neg (fun h2 => h2.2 h)]; exact HZ.out h), ho.intsN.1, fun a ha => ?_⟩
                      subst ha
                      have := (ho.lt rfl).1
                      show W.heap.size ≤ a.block
                      omega
                    exact steps_nil
                  · intro vs W5 hb5 hk
                    obtain ⟨A7, c7, y7, k7, l7, h7, m7, I7, z7⟩ : ∃ (A : Option Addr) (c : Nat) (y : Int), vs 4 = .agg #[.int .i64 P, .int .i64 y, .slice A n c] ∧ 0 ≤ y ∧ y ≤ 60 ∧ (P = -1 → y = 0) ∧ Ints .i64 W5 W5.heap.size A E9 ∧ (∀ a, A = some a → W.heap.size ≤ a.block) := hk 4 (by omega)
                    clear hk
                    simp only [List.take_succ_cons, List.take_zero, List.drop_succ_cons, List.drop_zero, putAll, Act.put, List.setIfInBounds_toArray, List.set_cons_zero, List.set_cons_succ, k7, Nat.reduceAdd, Nat.reduceSub]
                    clear k7
                    have C6 := hb5.blk B6 hne6
                    have CC := hb5.blk BC hneC
                    have hszW := hb5.size
                    have hD5 := hb5.2 r3 hdr
                    have bz5 := hb5.base bz hgw
                    refine wpList_store3 rfl rfl rfl rfl rfl C6 ⟨rfl, rfl, rfl⟩ ⟨_, _, rfl⟩ ⟨_, _, rfl⟩ ⟨_, _, _, rfl⟩ ?_
                    intro wN N6 gN
                    have NC := CC.grown gN (by intro e; injection e with e; omega)
                    have NI : Ints .i64 wN wN.heap.size A7 E9 := fun h0 => by
                      obtain ⟨bb, off, hA, hb, hc⟩ := I7 h0
                      have hzz := z7 _ hA
                      refine ⟨bb, off, hA, Nat.lt_of_lt_of_le hb gN.size, fun i hi => ?_⟩
                      rw [← hc i hi]
                      exact World.cell?_of_block (gN.block bb hb (fun e => by injection e with e; have : W.heap.size ≤ bb := hzz; omega))
                    have NB := bz5.grown gN bz5.size (fun k e => by injection e with e; omega)
                    obtain ⟨r5, hr5, hd5⟩ := hD5
                    have ND := hd5.other gN (by intro e; injection e with e; omega) (fun k e hk => by injection e with e; omega)
                    go_wp2
                    go_roundw
                    case rel => exact ⟨N + 1, P, y7, A7, c7, E9, r5, by omega, by simp, HP.out, ⟨l7, h7⟩, m7, hE9, (fun x hx => by have := hE9u x hx; omega), NC, N6, NI, (fun a ha => by have := z7 a ha; omega), NB, ND, by omega⟩
                    case measure =>
                      have e1 := ND.rest
                      have e2 := hdr0.rest
                      show restW _ _ < restW _ _
                      omega
              · have z1 : decide (P ≥ 0) = true := by simpa using hP0
                have hbq1 : bq = true := (f1 hP0).1
                subst hbq1
                have hGh := (f1 hP0).2
                have z2 : decide (G ≥ hold) = false := by simpa using hGh
                have hP1 := hPP.2
                by_cases hG0 : G = 0
                · have z3 : (G == 0) = true := by simpa using hG0
                  by_cases hph9 : ph = P
                  · have z4 : (ph != P) = false := by simpa using hph9
                    clear f1 f2 f3 f4 hPP hGh hG0 hph9
                    as_aux_lemma =>
                      have o0 := B9q.at 0 rfl
                      have o1 := B9q.at 1 rfl
                      have o2 := B9q.at 2 rfl
                      have s0 := BCq.at 0 rfl
                      have s1 := BCq.at 1 rfl
                      have s2 := BCq.at 2 rfl
                      have s3 := BCq.at 3 rfl
                      have s4 := BCq.at 4 rfl
                      have s5 := BCq.at 5 rfl
                      go_wp2_with fail
                      clear o0 o1 o2 s0 s1 s2 s3 s4 s5
                      have o0 := B9q.laterN 0 rfl
                      have o1 := B9q.laterN 1 rfl
                      have o2 := B9q.laterN 2 rfl
                      have p0 := B6q.laterN 0 rfl
                      have p1 := B6q.laterN 1 rfl
                      have p2 := B6q.laterN 2 rfl
                      have s0 := BCq.laterN 0 rfl
                      have s1 := BCq.laterN 1 rfl
                      have s2 := BCq.laterN 2 rfl
                      have s3 := BCq.laterN 3 rfl
                      have s4 := BCq.laterN 4 rfl
                      have s5 := BCq.laterN 5 rfl
                      refine wp_region_grow (by kernel_rfl) (by kernel_rfl) ?_
                      repeat' (first
                          | go_big_quiet_skip
                          | (go_big_quiet_want; first
                              | (go_big_quiet_op; go_big_quiet_on)
                              | (refine quiet_det ?_; apply Exists.intro; refine ⟨fun w' hC => ?_, ?_⟩; (go_simp <;> (first | rfl | exact ⟨rfl, rfl⟩)); apply Exists.intro; refine ⟨?_, ?_⟩; (go_simp <;> (first | rfl | exact ⟨rfl, rfl⟩)); go_big_quiet_on)
                              | (show Oper.quiet _ { dst := _, op := .call { callee := .value _, args := _, argTypes := _ }, type := _, pos := _, after := _, guard := _ } _ _ _; refine quiet_call ?_; apply Exists.intro; apply Exists.intro; refine ⟨fun w' hC => ?_, ?_⟩; (go_simp <;> (first | rfl | exact ⟨rfl, rfl⟩)); apply Exists.intro; refine ⟨fun w' hC => ?_, ?_⟩; (first

                                  | fail); apply Exists.intro; refine ⟨?_, ?_⟩; (go_simp <;> (first | rfl | exact ⟨rfl, rfl⟩)); go_big_quiet_on)))
                      all_goals refine wpQuiet_nil ?_
                      intro w3 hw3
                      clear o0 o1 o2 p0 p1 p2 s0 s1 s2 s3 s4 s5
                      (try clear z6); (try clear z5); (try clear z4); (try clear z3); (try clear z2); (try clear z1); (try clear hww); (try clear hx6)
                      have hneC : gc ≠ g := by omega
                      have hne6 : g6 ≠ g := by omega
                      have B9 := B9q.below hw3
                      have B6 := B6q.below hw3
                      have BC := BCq.below hw3
                      have hI9 := I9q.grow hw3
                      have hdr := hdq.below hw3
                      have hdk := hdr.ok
                      have bz := bzq.trans (hw3.mono bzq.size)
                      have hne9 := hneB9
                      have hlt9 := B9.lt
                      have hE9 := HE9.out
                      obtain ⟨r3, hr3⟩ : ∃ r3, r3 = r1 - 1 := ⟨_, rfl⟩
                      have hr3' : r3 ≤ r1 - 1 := by omega
                      rw [← hr3] at hdr
                      clear hr3 HGG
                      go_wp2_with fail
                      generalize hgW : w3 = W at *
                      clear hgW
                      refine wp_region_pre (R := (Gs g)) 5 160 [fun v _ => v = .agg #[.int .i64 P, .int .i64 G, .slice A9 n c9], fun v _ => v = .pointer (some ⟨g, 0, none⟩), fun v w => ∃ x : Int, v = .int .i64 x, fun v w => ∃ x : Bool, v = .bool x, fun v w => ∃ (A : Option Addr) (c : Nat) (y : Int), v = .agg #[.int .i64 P, .int .i64 y, .slice A n c] ∧ 0 ≤ y ∧ y ≤ 60 ∧ (P = -1 → y = 0) ∧ Ints .i64 w (w).heap.size A E9 ∧ (∀ a, A = some a → W.heap.size ≤ a.block)] (Gs.trans) (Gs.drew) (by kernel_rfl) (fun _ _ d _ _ h => by cases d <;> exact h) rfl (by kernel_rfl) (stay_cons (stays_v _) (stay_cons (stays_v _) (stay_cons (fun v _ _ h _ => h) (stay_cons (fun v _ _ h _ => h) (stay_cons (fun v w w1 h hb => by obtain ⟨A, c, y, h1, h2, h3, h6, h4, h5⟩ := h; exact ⟨A, c, y, h1, h2, h3, h6, h4.gr hb.gr (fun a ha => by have := h5 a ha; omega), h5⟩) (stay_nil)))))) ?_ ?_
                      · simp only [List.take_succ_cons, List.take_zero]
                        refine steps_cons (Gs.refl) (fun ev xw hb hc hf hfr hd hr => ?_) ?_
                        · have e9 : ev (.tmp 9) = .pointer (some ⟨g9, 0, none⟩) := hfr 9 (by kernel_rfl)
                          clear hfr hd
                          have q0 := (hb.blk B9 hne9).at 0 rfl
                          have q1 := (hb.blk B9 hne9).at 1 rfl
                          have q2 := (hb.blk B9 hne9).at 2 rfl
                          show OpOk _ _ ev xw fun v w' => (Gs g) xw w' ∧ (v = .agg #[.int .i64 P, .int .i64 G, .slice A9 n c9])
                          refine opOk_hid (fun Rp HR => ?_)
                          unfold OpOk
                          go_simp
                          rw [HR.out]
                          exact ⟨hr, rfl⟩
                        refine steps_cons (Gs.refl) (fun ev xw hb hc hf hfr hd hr => ?_) ?_
                        · have e3 : ev (.tmp 3) = .pointer (some ⟨g, 0, none⟩) := hfr 3 (by kernel_rfl)
                          clear hfr hd
                          show OpOk _ _ ev xw fun v w' => (Gs g) xw w' ∧ (v = .pointer (some ⟨g, 0, none⟩))
                          refine opOk_hid (fun Rp HR => ?_)
                          unfold OpOk
                          go_simp
                          rw [HR.out]
                          exact ⟨hr, rfl⟩
                        refine steps_cons (Gs.refl) (fun ev xw hb hc hf hfr hd hr => ?_) ?_
                        · have e155 : ev (.tmp 155) = .pointer (some ⟨g, 0, none⟩) := hd 1 155 (by kernel_rfl)
                          clear hfr hd
                          show OpOk _ _ ev xw fun v w' => (Gs g) xw w' ∧ (∃ x : Int, v = .int .i64 x)
                          refine opOk_hid (fun Rp HR => ?_)
                          unfold OpOk
                          go_simp
                          refine (next_s g 3 xw (hb.gr.2 hdk) (by omega) (by omega)).mono ?_
                          rintro e w'' ⟨hw, _, x, x0, x1, rfl⟩
                          refine ⟨_, rfl, ?_⟩
                          rw [HR.out]
                          exact ⟨hw, x, rfl⟩
                        refine steps_cons (Gs.refl) (fun ev xw hb hc hf hfr hd hr => ?_) ?_
                        · obtain ⟨x156, e156⟩ : ∃ x : Int, ev (.tmp 156) = .int .i64 x := hd 2 156 (by kernel_rfl)
                          clear hfr hd
                          show OpOk _ _ ev xw fun v w' => (Gs g) xw w' ∧ (∃ x : Bool, v = .bool x)
                          refine opOk_hid (fun Rp HR => ?_)
                          unfold OpOk
                          go_simp
                          rw [HR.out]
                          exact ⟨hr, _, rfl⟩
                        refine steps_cons (Gs.refl) (fun ev xw hb hc hf hfr hd hr => ?_) ?_
                        · have e154 : ev (.tmp 154) = .agg #[.int .i64 P, .int .i64 G, .slice A9 n c9] := hd 0 154 (by kernel_rfl)
                          obtain ⟨x157, e157⟩ : ∃ x : Bool, ev (.tmp 157) = .bool x := hd 3 157 (by kernel_rfl)
                          clear hfr hd
                          show OpOk _ _ ev xw fun v w' => (Gs g) xw w' ∧ (∃ (A : Option Addr) (c : Nat) (y : Int), v = .agg #[.int .i64 P, .int .i64 y, .slice A n c] ∧ 0 ≤ y ∧ y ≤ 60 ∧ (P = -1 → y = 0) ∧ Ints .i64 w' (w').heap.size A E9 ∧ (∀ a, A = some a → W.heap.size ≤ a.block))
                          refine opOk_hid (fun Rp HR => ?_)
                          unfold OpOk
                          go_simp
                          have hIx := hI9.gr hb.gr hfar9
                          have hszx := hb.size
                          refine (count_any P G A9 n c9 E9 x157 xw hE9 hIx (by omega) (by omega) hG).mono ?_
                          intro e w'' hS
                          obtain ⟨A, c, rfl, hw, ho⟩ := hS
                          refine ⟨_, rfl, ?_⟩
                          rw [HR.out]
                          refine ⟨Gs.of_below hw, A, c, _, rfl, (grC_bd x157 P hG).1, (grC_bd x157 P hG).2, (fun h => by unfold grC; rw [if_neg (fun h2 => h2.2 h)]; exact HZ.out h), ho.intsN.1, fun a ha => ?_⟩
                          subst ha
                          have := (ho.lt rfl).1
                          show W.heap.size ≤ a.block
                          omega
                        exact steps_nil
                      · intro vs W5 hb5 hk
                        obtain ⟨A7, c7, y7, k7, l7, h7, m7, I7, z7⟩ : ∃ (A : Option Addr) (c : Nat) (y : Int), vs 4 = .agg #[.int .i64 P, .int .i64 y, .slice A n c] ∧ 0 ≤ y ∧ y ≤ 60 ∧ (P = -1 → y = 0) ∧ Ints .i64 W5 W5.heap.size A E9 ∧ (∀ a, A = some a → W.heap.size ≤ a.block) := hk 4 (by omega)
                        clear hk
                        simp only [List.take_succ_cons, List.take_zero, List.drop_succ_cons, List.drop_zero, putAll, Act.put, List.setIfInBounds_toArray, List.set_cons_zero, List.set_cons_succ, k7, Nat.reduceAdd, Nat.reduceSub]
                        clear k7
                        have C6 := hb5.blk B6 hne6
                        have CC := hb5.blk BC hneC
                        have hszW := hb5.size
                        have hD5 := hb5.2 r3 hdr
                        have bz5 := hb5.base bz hgw
                        refine wpList_store3 rfl rfl rfl rfl rfl C6 ⟨rfl, rfl, rfl⟩ ⟨_, _, rfl⟩ ⟨_, _, rfl⟩ ⟨_, _, _, rfl⟩ ?_
                        intro wN N6 gN
                        have NC := CC.grown gN (by intro e; injection e with e; omega)
                        have NI : Ints .i64 wN wN.heap.size A7 E9 := fun h0 => by
                          obtain ⟨bb, off, hA, hb, hc⟩ := I7 h0
                          have hzz := z7 _ hA
                          refine ⟨bb, off, hA, Nat.lt_of_lt_of_le hb gN.size, fun i hi => ?_⟩
                          rw [← hc i hi]
                          exact World.cell?_of_block (gN.block bb hb (fun e => by injection e with e; have : W.heap.size ≤ bb := hzz; omega))
                        have NB := bz5.grown gN bz5.size (fun k e => by injection e with e; omega)
                        obtain ⟨r5, hr5, hd5⟩ := hD5
                        have ND := hd5.other gN (by intro e; injection e with e; omega) (fun k e hk => by injection e with e; omega)
                        go_wp2
                        go_roundw
                        case rel => exact ⟨N + 1, P, y7, A7, c7, E9, r5, by omega, by simp, HP.out, ⟨l7, h7⟩, m7, hE9, (fun x hx => by have := hE9u x hx; omega), NC, N6, NI, (fun a ha => by have := z7 a ha; omega), NB, ND, by omega⟩
                        case measure =>
                          have e1 := ND.rest
                          have e2 := hdr0.rest
                          show restW _ _ < restW _ _
                          omega
                  · have z4 : (ph != P) = true := by simpa using hph9
                    cases bo with
                    | true =>
                      clear f1 f2 f3 f4 hPP hGh hG0 hph9
                      as_aux_lemma =>
                        have o0 := B9q.at 0 rfl
                        have o1 := B9q.at 1 rfl
                        have o2 := B9q.at 2 rfl
                        have s0 := BCq.at 0 rfl
                        have s1 := BCq.at 1 rfl
                        have s2 := BCq.at 2 rfl
                        have s3 := BCq.at 3 rfl
                        have s4 := BCq.at 4 rfl
                        have s5 := BCq.at 5 rfl
                        go_wp2_with fail
                        clear o0 o1 o2 s0 s1 s2 s3 s4 s5
                        have o0 := B9q.laterN 0 rfl
                        have o1 := B9q.laterN 1 rfl
                        have o2 := B9q.laterN 2 rfl
                        have p0 := B6q.laterN 0 rfl
                        have p1 := B6q.laterN 1 rfl
                        have p2 := B6q.laterN 2 rfl
                        have s0 := BCq.laterN 0 rfl
                        have s1 := BCq.laterN 1 rfl
                        have s2 := BCq.laterN 2 rfl
                        have s3 := BCq.laterN 3 rfl
                        have s4 := BCq.laterN 4 rfl
                        have s5 := BCq.laterN 5 rfl
                        refine wp_region_grow (by kernel_rfl) (by kernel_rfl) ?_
                        repeat' (first
                            | go_big_quiet_skip
                            | (go_big_quiet_want; first
                                | (go_big_quiet_op; go_big_quiet_on)
                                | (refine quiet_det ?_; apply Exists.intro; refine ⟨fun w' hC => ?_, ?_⟩; (go_simp <;> (first | rfl | exact ⟨rfl, rfl⟩)); apply Exists.intro; refine ⟨?_, ?_⟩; (go_simp <;> (first | rfl | exact ⟨rfl, rfl⟩)); go_big_quiet_on)
                                | (show Oper.quiet _ { dst := _, op := .call { callee := .value _, args := _, argTypes := _ }, type := _, pos := _, after := _, guard := _ } _ _ _; refine quiet_call ?_; apply Exists.intro; apply Exists.intro; refine ⟨fun w' hC => ?_, ?_⟩; (go_simp <;> (first | rfl | exact ⟨rfl, rfl⟩)); apply Exists.intro; refine ⟨fun w' hC => ?_, ?_⟩; (first

                                    | fail); apply Exists.intro; refine ⟨?_, ?_⟩; (go_simp <;> (first | rfl | exact ⟨rfl, rfl⟩)); go_big_quiet_on)))
                        all_goals refine wpQuiet_nil ?_
                        intro w3 hw3
                        clear o0 o1 o2 p0 p1 p2 s0 s1 s2 s3 s4 s5
                        (try clear z6); (try clear z5); (try clear z4); (try clear z3); (try clear z2); (try clear z1); (try clear hww); (try clear hx6)
                        have hneC : gc ≠ g := by omega
                        have hne6 : g6 ≠ g := by omega
                        have B9 := B9q.below hw3
                        have B6 := B6q.below hw3
                        have BC := BCq.below hw3
                        have hI9 := I9q.grow hw3
                        have hdr := hdq.below hw3
                        have hdk := hdr.ok
                        have bz := bzq.trans (hw3.mono bzq.size)
                        have hne9 := hneB9
                        have hlt9 := B9.lt
                        have hE9 := HE9.out
                        obtain ⟨r3, hr3⟩ : ∃ r3, r3 = r1 - 1 := ⟨_, rfl⟩
                        have hr3' : r3 ≤ r1 - 1 := by omega
                        rw [← hr3] at hdr
                        clear hr3 HGG
                        go_wp2_with fail
                        generalize hgW : w3 = W at *
                        clear hgW
                        refine wp_region_pre (R := (Gs g)) 5 160 [fun v _ => v = .agg #[.int .i64 P, .int .i64 G, .slice A9 n c9], fun v _ => v = .pointer (some ⟨g, 0, none⟩), fun v w => ∃ x : Int, v = .int .i64 x, fun v w => ∃ x : Bool, v = .bool x, fun v w => ∃ (A : Option Addr) (c : Nat) (y : Int), v = .agg #[.int .i64 P, .int .i64 y, .slice A n c] ∧ 0 ≤ y ∧ y ≤ 60 ∧ (P = -1 → y = 0) ∧ Ints .i64 w (w).heap.size A E9 ∧ (∀ a, A = some a → W.heap.size ≤ a.block)] (Gs.trans) (Gs.drew) (by kernel_rfl) (fun _ _ d _ _ h => by cases d <;> exact h) rfl (by kernel_rfl) (stay_cons (stays_v _) (stay_cons (stays_v _) (stay_cons (fun v _ _ h _ => h) (stay_cons (fun v _ _ h _ => h) (stay_cons (fun v w w1 h hb => by obtain ⟨A, c, y, h1, h2, h3, h6, h4, h5⟩ := h; exact ⟨A, c, y, h1, h2, h3, h6, h4.gr hb.gr (fun a ha => by have := h5 a ha; omega), h5⟩) (stay_nil)))))) ?_ ?_
                        · simp only [List.take_succ_cons, List.take_zero]
                          refine steps_cons (Gs.refl) (fun ev xw hb hc hf hfr hd hr => ?_) ?_
                          · have e9 : ev (.tmp 9) = .pointer (some ⟨g9, 0, none⟩) := hfr 9 (by kernel_rfl)
                            clear hfr hd
                            have q0 := (hb.blk B9 hne9).at 0 rfl
                            have q1 := (hb.blk B9 hne9).at 1 rfl
                            have q2 := (hb.blk B9 hne9).at 2 rfl
                            show OpOk _ _ ev xw fun v w' => (Gs g) xw w' ∧ (v = .agg #[.int .i64 P, .int .i64 G, .slice A9 n c9])
                            refine opOk_hid (fun Rp HR => ?_)
                            unfold OpOk
                            go_simp
                            rw [HR.out]
                            exact ⟨hr, rfl⟩
                          refine steps_cons (Gs.refl) (fun ev xw hb hc hf hfr hd hr => ?_) ?_
                          · have e3 : ev (.tmp 3) = .pointer (some ⟨g, 0, none⟩) := hfr 3 (by kernel_rfl)
                            clear hfr hd
                            show OpOk _ _ ev xw fun v w' => (Gs g) xw w' ∧ (v = .pointer (some ⟨g, 0, none⟩))
                            refine opOk_hid (fun Rp HR => ?_)
                            unfold OpOk
                            go_simp
                            rw [HR.out]
                            exact ⟨hr, rfl⟩
                          refine steps_cons (Gs.refl) (fun ev xw hb hc hf hfr hd hr => ?_) ?_
                          · have e155 : ev (.tmp 155) = .pointer (some ⟨g, 0, none⟩) := hd 1 155 (by kernel_rfl)
                            clear hfr hd
                            show OpOk _ _ ev xw fun v w' => (Gs g) xw w' ∧ (∃ x : Int, v = .int .i64 x)
                            refine opOk_hid (fun Rp HR => ?_)
                            unfold OpOk
                            go_simp
                            refine (next_s g 3 xw (hb.gr.2 hdk) (by omega) (by omega)).mono ?_
                            rintro e w'' ⟨hw, _, x, x0, x1, rfl⟩
                            refine ⟨_, rfl, ?_⟩
                            rw [HR.out]
                            exact ⟨hw, x, rfl⟩
                          refine steps_cons (Gs.refl) (fun ev xw hb hc hf hfr hd hr => ?_) ?_
                          · obtain ⟨x156, e156⟩ : ∃ x : Int, ev (.tmp 156) = .int .i64 x := hd 2 156 (by kernel_rfl)
                            clear hfr hd
                            show OpOk _ _ ev xw fun v w' => (Gs g) xw w' ∧ (∃ x : Bool, v = .bool x)
                            refine opOk_hid (fun Rp HR => ?_)
                            unfold OpOk
                            go_simp
                            rw [HR.out]
                            exact ⟨hr, _, rfl⟩
                          refine steps_cons (Gs.refl) (fun ev xw hb hc hf hfr hd hr => ?_) ?_
                          · have e154 : ev (.tmp 154) = .agg #[.int .i64 P, .int .i64 G, .slice A9 n c9] := hd 0 154 (by kernel_rfl)
                            obtain ⟨x157, e157⟩ : ∃ x : Bool, ev (.tmp 157) = .bool x := hd 3 157 (by kernel_rfl)
                            clear hfr hd
                            show OpOk _ _ ev xw fun v w' => (Gs g) xw w' ∧ (∃ (A : Option Addr) (c : Nat) (y : Int), v = .agg #[.int .i64 P, .int .i64 y, .slice A n c] ∧ 0 ≤ y ∧ y ≤ 60 ∧ (P = -1 → y = 0) ∧ Ints .i64 w' (w').heap.size A E9 ∧ (∀ a, A = some a → W.heap.size ≤ a.block))
                            refine opOk_hid (fun Rp HR => ?_)
                            unfold OpOk
                            go_simp
                            have hIx := hI9.gr hb.gr hfar9
                            have hszx := hb.size
                            refine (count_any P G A9 n c9 E9 x157 xw hE9 hIx (by omega) (by omega) hG).mono ?_
                            intro e w'' hS
                            obtain ⟨A, c, rfl, hw, ho⟩ := hS
                            refine ⟨_, rfl, ?_⟩
                            rw [HR.out]
                            refine ⟨Gs.of_below hw, A, c, _, rfl, (grC_bd x157 P hG).1, (grC_bd x157 P hG).2, (fun h => by unfold grC; rw [if_neg (fun h2 => h2.2 h)]; exact HZ.out h), ho.intsN.1, fun a ha => ?_⟩
                            subst ha
                            have := (ho.lt rfl).1
                            show W.heap.size ≤ a.block
                            omega
                          exact steps_nil
                        · intro vs W5 hb5 hk
                          obtain ⟨A7, c7, y7, k7, l7, h7, m7, I7, z7⟩ : ∃ (A : Option Addr) (c : Nat) (y : Int), vs 4 = .agg #[.int .i64 P, .int .i64 y, .slice A n c] ∧ 0 ≤ y ∧ y ≤ 60 ∧ (P = -1 → y = 0) ∧ Ints .i64 W5 W5.heap.size A E9 ∧ (∀ a, A = some a → W.heap.size ≤ a.block) := hk 4 (by omega)
                          clear hk
                          simp only [List.take_succ_cons, List.take_zero, List.drop_succ_cons, List.drop_zero, putAll, Act.put, List.setIfInBounds_toArray, List.set_cons_zero, List.set_cons_succ, k7, Nat.reduceAdd, Nat.reduceSub]
                          clear k7
                          have C6 := hb5.blk B6 hne6
                          have CC := hb5.blk BC hneC
                          have hszW := hb5.size
                          have hD5 := hb5.2 r3 hdr
                          have bz5 := hb5.base bz hgw
                          refine wpList_store3 rfl rfl rfl rfl rfl C6 ⟨rfl, rfl, rfl⟩ ⟨_, _, rfl⟩ ⟨_, _, rfl⟩ ⟨_, _, _, rfl⟩ ?_
                          intro wN N6 gN
                          have NC := CC.grown gN (by intro e; injection e with e; omega)
                          have NI : Ints .i64 wN wN.heap.size A7 E9 := fun h0 => by
                            obtain ⟨bb, off, hA, hb, hc⟩ := I7 h0
                            have hzz := z7 _ hA
                            refine ⟨bb, off, hA, Nat.lt_of_lt_of_le hb gN.size, fun i hi => ?_⟩
                            rw [← hc i hi]
                            exact World.cell?_of_block (gN.block bb hb (fun e => by injection e with e; have : W.heap.size ≤ bb := hzz; omega))
                          have NB := bz5.grown gN bz5.size (fun k e => by injection e with e; omega)
                          obtain ⟨r5, hr5, hd5⟩ := hD5
                          have ND := hd5.other gN (by intro e; injection e with e; omega) (fun k e hk => by injection e with e; omega)
                          go_wp2
                          go_roundw
                          case rel => exact ⟨N + 1, P, y7, A7, c7, E9, r5, by omega, by simp, HP.out, ⟨l7, h7⟩, m7, hE9, (fun x hx => by have := hE9u x hx; omega), NC, N6, NI, (fun a ha => by have := z7 a ha; omega), NB, ND, by omega⟩
                          case measure =>
                            have e1 := ND.rest
                            have e2 := hdr0.rest
                            show restW _ _ < restW _ _
                            omega
                    | false =>
                      obtain ⟨b6, o6, hA6, hb6, hc6⟩ := Idq.sub (i := P.toNat) (by rw [HE.out]; omega)
                      have hx6 := hEu _ (at_mem (l := E) (i := P.toNat) (by rw [HE.out]; omega))
                      have f5 := f3 hP0 hG0 hph9 rfl
                      subst hA6
                      have c6l : ∀ w', Below wr.heap.size wr w' → w'.cell? ⟨b6, o6 + P.toNat, none⟩ = some (.int .i64 (at_ E P.toNat)) := fun w' hb => (hb.cell (p := ⟨b6, o6 + P.toNat, none⟩) hb6).trans hc6
                      generalize at_ E P.toNat = x6 at *
                      have hww : IntKind.i64.wrap ((N : Int) - x6) = (N : Int) - x6 := by rw [IntKind.wrap_i64]; omega
                      by_cases hx : x6 = -1
                      · have z5 : (x6 != (-1 : Int)) = false := by simpa using hx
                        clear f1 f2 f3 f4 f5 hPP hGh hG0 hph9 hx
                        as_aux_lemma =>
                          have o0 := B9q.at 0 rfl
                          have o1 := B9q.at 1 rfl
                          have o2 := B9q.at 2 rfl
                          have s0 := BCq.at 0 rfl
                          have s1 := BCq.at 1 rfl
                          have s2 := BCq.at 2 rfl
                          have s3 := BCq.at 3 rfl
                          have s4 := BCq.at 4 rfl
                          have s5 := BCq.at 5 rfl
                          go_wp2_with fail
                          clear o0 o1 o2 s0 s1 s2 s3 s4 s5
                          have o0 := B9q.laterN 0 rfl
                          have o1 := B9q.laterN 1 rfl
                          have o2 := B9q.laterN 2 rfl
                          have p0 := B6q.laterN 0 rfl
                          have p1 := B6q.laterN 1 rfl
                          have p2 := B6q.laterN 2 rfl
                          have s0 := BCq.laterN 0 rfl
                          have s1 := BCq.laterN 1 rfl
                          have s2 := BCq.laterN 2 rfl
                          have s3 := BCq.laterN 3 rfl
                          have s4 := BCq.laterN 4 rfl
                          have s5 := BCq.laterN 5 rfl
                          refine wp_region_grow (by kernel_rfl) (by kernel_rfl) ?_
                          repeat' (first
                              | go_big_quiet_skip
                              | (go_big_quiet_want; first
                                  | (go_big_quiet_op; go_big_quiet_on)
                                  | (refine quiet_det ?_; apply Exists.intro; refine ⟨fun w' hC => ?_, ?_⟩; (go_simp <;> (first | rfl | exact ⟨rfl, rfl⟩)); apply Exists.intro; refine ⟨?_, ?_⟩; (go_simp <;> (first | rfl | exact ⟨rfl, rfl⟩)); go_big_quiet_on)
                                  | (show Oper.quiet _ { dst := _, op := .call { callee := .value _, args := _, argTypes := _ }, type := _, pos := _, after := _, guard := _ } _ _ _; refine quiet_call ?_; apply Exists.intro; apply Exists.intro; refine ⟨fun w' hC => ?_, ?_⟩; (go_simp <;> (first | rfl | exact ⟨rfl, rfl⟩)); apply Exists.intro; refine ⟨fun w' hC => ?_, ?_⟩; (first

                                      | fail); apply Exists.intro; refine ⟨?_, ?_⟩; (go_simp <;> (first | rfl | exact ⟨rfl, rfl⟩)); go_big_quiet_on)))
                          all_goals refine wpQuiet_nil ?_
                          intro w3 hw3
                          clear o0 o1 o2 p0 p1 p2 s0 s1 s2 s3 s4 s5 c6l
                          (try clear z6); (try clear z5); (try clear z4); (try clear z3); (try clear z2); (try clear z1); (try clear hww); (try clear hx6)
                          have hneC : gc ≠ g := by omega
                          have hne6 : g6 ≠ g := by omega
                          have B9 := B9q.below hw3
                          have B6 := B6q.below hw3
                          have BC := BCq.below hw3
                          have hI9 := I9q.grow hw3
                          have hdr := hdq.below hw3
                          have hdk := hdr.ok
                          have bz := bzq.trans (hw3.mono bzq.size)
                          have hne9 := hneB9
                          have hlt9 := B9.lt
                          have hE9 := HE9.out
                          obtain ⟨r3, hr3⟩ : ∃ r3, r3 = r1 - 1 := ⟨_, rfl⟩
                          have hr3' : r3 ≤ r1 - 1 := by omega
                          rw [← hr3] at hdr
                          clear hr3 HGG
                          go_wp2_with fail
                          generalize hgW : w3 = W at *
                          clear hgW
                          refine wp_region_pre (R := (Gs g)) 5 160 [fun v _ => v = .agg #[.int .i64 P, .int .i64 G, .slice A9 n c9], fun v _ => v = .pointer (some ⟨g, 0, none⟩), fun v w => ∃ x : Int, v = .int .i64 x, fun v w => ∃ x : Bool, v = .bool x, fun v w => ∃ (A : Option Addr) (c : Nat) (y : Int), v = .agg #[.int .i64 P, .int .i64 y, .slice A n c] ∧ 0 ≤ y ∧ y ≤ 60 ∧ (P = -1 → y = 0) ∧ Ints .i64 w (w).heap.size A E9 ∧ (∀ a, A = some a → W.heap.size ≤ a.block)] (Gs.trans) (Gs.drew) (by kernel_rfl) (fun _ _ d _ _ h => by cases d <;> exact h) rfl (by kernel_rfl) (stay_cons (stays_v _) (stay_cons (stays_v _) (stay_cons (fun v _ _ h _ => h) (stay_cons (fun v _ _ h _ => h) (stay_cons (fun v w w1 h hb => by obtain ⟨A, c, y, h1, h2, h3, h6, h4, h5⟩ := h; exact ⟨A, c, y, h1, h2, h3, h6, h4.gr hb.gr (fun a ha => by have := h5 a ha; omega), h5⟩) (stay_nil)))))) ?_ ?_
                          · simp only [List.take_succ_cons, List.take_zero]
                            refine steps_cons (Gs.refl) (fun ev xw hb hc hf hfr hd hr => ?_) ?_
                            · have e9 : ev (.tmp 9) = .pointer (some ⟨g9, 0, none⟩) := hfr 9 (by kernel_rfl)
                              clear hfr hd
                              have q0 := (hb.blk B9 hne9).at 0 rfl
                              have q1 := (hb.blk B9 hne9).at 1 rfl
                              have q2 := (hb.blk B9 hne9).at 2 rfl
                              show OpOk _ _ ev xw fun v w' => (Gs g) xw w' ∧ (v = .agg #[.int .i64 P, .int .i64 G, .slice A9 n c9])
                              refine opOk_hid (fun Rp HR => ?_)
                              unfold OpOk
                              go_simp
                              rw [HR.out]
                              exact ⟨hr, rfl⟩
                            refine steps_cons (Gs.refl) (fun ev xw hb hc hf hfr hd hr => ?_) ?_
                            · have e3 : ev (.tmp 3) = .pointer (some ⟨g, 0, none⟩) := hfr 3 (by kernel_rfl)
                              clear hfr hd
                              show OpOk _ _ ev xw fun v w' => (Gs g) xw w' ∧ (v = .pointer (some ⟨g, 0, none⟩))
                              refine opOk_hid (fun Rp HR => ?_)
                              unfold OpOk
                              go_simp
                              rw [HR.out]
                              exact ⟨hr, rfl⟩
                            refine steps_cons (Gs.refl) (fun ev xw hb hc hf hfr hd hr => ?_) ?_
                            · have e155 : ev (.tmp 155) = .pointer (some ⟨g, 0, none⟩) := hd 1 155 (by kernel_rfl)
                              clear hfr hd
                              show OpOk _ _ ev xw fun v w' => (Gs g) xw w' ∧ (∃ x : Int, v = .int .i64 x)
                              refine opOk_hid (fun Rp HR => ?_)
                              unfold OpOk
                              go_simp
                              refine (next_s g 3 xw (hb.gr.2 hdk) (by omega) (by omega)).mono ?_
                              rintro e w'' ⟨hw, _, x, x0, x1, rfl⟩
                              refine ⟨_, rfl, ?_⟩
                              rw [HR.out]
                              exact ⟨hw, x, rfl⟩
                            refine steps_cons (Gs.refl) (fun ev xw hb hc hf hfr hd hr => ?_) ?_
                            · obtain ⟨x156, e156⟩ : ∃ x : Int, ev (.tmp 156) = .int .i64 x := hd 2 156 (by kernel_rfl)
                              clear hfr hd
                              show OpOk _ _ ev xw fun v w' => (Gs g) xw w' ∧ (∃ x : Bool, v = .bool x)
                              refine opOk_hid (fun Rp HR => ?_)
                              unfold OpOk
                              go_simp
                              rw [HR.out]
                              exact ⟨hr, _, rfl⟩
                            refine steps_cons (Gs.refl) (fun ev xw hb hc hf hfr hd hr => ?_) ?_
                            · have e154 : ev (.tmp 154) = .agg #[.int .i64 P, .int .i64 G, .slice A9 n c9] := hd 0 154 (by kernel_rfl)
                              obtain ⟨x157, e157⟩ : ∃ x : Bool, ev (.tmp 157) = .bool x := hd 3 157 (by kernel_rfl)
                              clear hfr hd
                              show OpOk _ _ ev xw fun v w' => (Gs g) xw w' ∧ (∃ (A : Option Addr) (c : Nat) (y : Int), v = .agg #[.int .i64 P, .int .i64 y, .slice A n c] ∧ 0 ≤ y ∧ y ≤ 60 ∧ (P = -1 → y = 0) ∧ Ints .i64 w' (w').heap.size A E9 ∧ (∀ a, A = some a → W.heap.size ≤ a.block))
                              refine opOk_hid (fun Rp HR => ?_)
                              unfold OpOk
                              go_simp
                              have hIx := hI9.gr hb.gr hfar9
                              have hszx := hb.size
                              refine (count_any P G A9 n c9 E9 x157 xw hE9 hIx (by omega) (by omega) hG).mono ?_
                              intro e w'' hS
                              obtain ⟨A, c, rfl, hw, ho⟩ := hS
                              refine ⟨_, rfl, ?_⟩
                              rw [HR.out]
                              refine ⟨Gs.of_below hw, A, c, _, rfl, (grC_bd x157 P hG).1, (grC_bd x157 P hG).2, (fun h => by unfold grC; rw [if_neg (fun h2 => h2.2 h)]; exact HZ.out h), ho.intsN.1, fun a ha => ?_⟩
                              subst ha
                              have := (ho.lt rfl).1
                              show W.heap.size ≤ a.block
                              omega
                            exact steps_nil
                          · intro vs W5 hb5 hk
                            obtain ⟨A7, c7, y7, k7, l7, h7, m7, I7, z7⟩ : ∃ (A : Option Addr) (c : Nat) (y : Int), vs 4 = .agg #[.int .i64 P, .int .i64 y, .slice A n c] ∧ 0 ≤ y ∧ y ≤ 60 ∧ (P = -1 → y = 0) ∧ Ints .i64 W5 W5.heap.size A E9 ∧ (∀ a, A = some a → W.heap.size ≤ a.block) := hk 4 (by omega)
                            clear hk
                            simp only [List.take_succ_cons, List.take_zero, List.drop_succ_cons, List.drop_zero, putAll, Act.put, List.setIfInBounds_toArray, List.set_cons_zero, List.set_cons_succ, k7, Nat.reduceAdd, Nat.reduceSub]
                            clear k7
                            have C6 := hb5.blk B6 hne6
                            have CC := hb5.blk BC hneC
                            have hszW := hb5.size
                            have hD5 := hb5.2 r3 hdr
                            have bz5 := hb5.base bz hgw
                            refine wpList_store3 rfl rfl rfl rfl rfl C6 ⟨rfl, rfl, rfl⟩ ⟨_, _, rfl⟩ ⟨_, _, rfl⟩ ⟨_, _, _, rfl⟩ ?_
                            intro wN N6 gN
                            have NC := CC.grown gN (by intro e; injection e with e; omega)
                            have NI : Ints .i64 wN wN.heap.size A7 E9 := fun h0 => by
                              obtain ⟨bb, off, hA, hb, hc⟩ := I7 h0
                              have hzz := z7 _ hA
                              refine ⟨bb, off, hA, Nat.lt_of_lt_of_le hb gN.size, fun i hi => ?_⟩
                              rw [← hc i hi]
                              exact World.cell?_of_block (gN.block bb hb (fun e => by injection e with e; have : W.heap.size ≤ bb := hzz; omega))
                            have NB := bz5.grown gN bz5.size (fun k e => by injection e with e; omega)
                            obtain ⟨r5, hr5, hd5⟩ := hD5
                            have ND := hd5.other gN (by intro e; injection e with e; omega) (fun k e hk => by injection e with e; omega)
                            go_wp2
                            go_roundw
                            case rel => exact ⟨N + 1, P, y7, A7, c7, E9, r5, by omega, by simp, HP.out, ⟨l7, h7⟩, m7, hE9, (fun x hx => by have := hE9u x hx; omega), NC, N6, NI, (fun a ha => by have := z7 a ha; omega), NB, ND, by omega⟩
                            case measure =>
                              have e1 := ND.rest
                              have e2 := hdr0.rest
                              show restW _ _ < restW _ _
                              omega
                      · have z5 : (x6 != (-1 : Int)) = true := by simpa using hx
                        have z6 : decide ((N : Int) - x6 ≤ lock) = false := by simpa using f5 hx
                        clear f1 f2 f3 f4 f5 hPP hGh hG0 hph9 hx
                        as_aux_lemma =>
                          have o0 := B9q.at 0 rfl
                          have o1 := B9q.at 1 rfl
                          have o2 := B9q.at 2 rfl
                          have s0 := BCq.at 0 rfl
                          have s1 := BCq.at 1 rfl
                          have s2 := BCq.at 2 rfl
                          have s3 := BCq.at 3 rfl
                          have s4 := BCq.at 4 rfl
                          have s5 := BCq.at 5 rfl
                          go_wp2_with fail
                          clear o0 o1 o2 s0 s1 s2 s3 s4 s5
                          have o0 := B9q.laterN 0 rfl
                          have o1 := B9q.laterN 1 rfl
                          have o2 := B9q.laterN 2 rfl
                          have p0 := B6q.laterN 0 rfl
                          have p1 := B6q.laterN 1 rfl
                          have p2 := B6q.laterN 2 rfl
                          have s0 := BCq.laterN 0 rfl
                          have s1 := BCq.laterN 1 rfl
                          have s2 := BCq.laterN 2 rfl
                          have s3 := BCq.laterN 3 rfl
                          have s4 := BCq.laterN 4 rfl
                          have s5 := BCq.laterN 5 rfl
                          refine wp_region_grow (by kernel_rfl) (by kernel_rfl) ?_
                          repeat' (first
                              | go_big_quiet_skip
                              | (go_big_quiet_want; first
                                  | (go_big_quiet_op; go_big_quiet_on)
                                  | (refine quiet_det ?_; apply Exists.intro; refine ⟨fun w' hC => ?_, ?_⟩; (go_simp <;> (first | rfl | exact ⟨rfl, rfl⟩)); apply Exists.intro; refine ⟨?_, ?_⟩; (go_simp <;> (first | rfl | exact ⟨rfl, rfl⟩)); go_big_quiet_on)
                                  | (show Oper.quiet _ { dst := _, op := .call { callee := .value _, args := _, argTypes := _ }, type := _, pos := _, after := _, guard := _ } _ _ _; refine quiet_call ?_; apply Exists.intro; apply Exists.intro; refine ⟨fun w' hC => ?_, ?_⟩; (go_simp <;> (first | rfl | exact ⟨rfl, rfl⟩)); apply Exists.intro; refine ⟨fun w' hC => ?_, ?_⟩; (first

                                      | fail); apply Exists.intro; refine ⟨?_, ?_⟩; (go_simp <;> (first | rfl | exact ⟨rfl, rfl⟩)); go_big_quiet_on)))
                          all_goals refine wpQuiet_nil ?_
                          intro w3 hw3
                          clear o0 o1 o2 p0 p1 p2 s0 s1 s2 s3 s4 s5 c6l
                          (try clear z6); (try clear z5); (try clear z4); (try clear z3); (try clear z2); (try clear z1); (try clear hww); (try clear hx6)
                          have hneC : gc ≠ g := by omega
                          have hne6 : g6 ≠ g := by omega
                          have B9 := B9q.below hw3
                          have B6 := B6q.below hw3
                          have BC := BCq.below hw3
                          have hI9 := I9q.grow hw3
                          have hdr := hdq.below hw3
                          have hdk := hdr.ok
                          have bz := bzq.trans (hw3.mono bzq.size)
                          have hne9 := hneB9
                          have hlt9 := B9.lt
                          have hE9 := HE9.out
                          obtain ⟨r3, hr3⟩ : ∃ r3, r3 = r1 - 1 := ⟨_, rfl⟩
                          have hr3' : r3 ≤ r1 - 1 := by omega
                          rw [← hr3] at hdr
                          clear hr3 HGG
                          go_wp2_with fail
                          generalize hgW : w3 = W at *
                          clear hgW
                          refine wp_region_pre (R := (Gs g)) 5 160 [fun v _ => v = .agg #[.int .i64 P, .int .i64 G, .slice A9 n c9], fun v _ => v = .pointer (some ⟨g, 0, none⟩), fun v w => ∃ x : Int, v = .int .i64 x, fun v w => ∃ x : Bool, v = .bool x, fun v w => ∃ (A : Option Addr) (c : Nat) (y : Int), v = .agg #[.int .i64 P, .int .i64 y, .slice A n c] ∧ 0 ≤ y ∧ y ≤ 60 ∧ (P = -1 → y = 0) ∧ Ints .i64 w (w).heap.size A E9 ∧ (∀ a, A = some a → W.heap.size ≤ a.block)] (Gs.trans) (Gs.drew) (by kernel_rfl) (fun _ _ d _ _ h => by cases d <;> exact h) rfl (by kernel_rfl) (stay_cons (stays_v _) (stay_cons (stays_v _) (stay_cons (fun v _ _ h _ => h) (stay_cons (fun v _ _ h _ => h) (stay_cons (fun v w w1 h hb => by obtain ⟨A, c, y, h1, h2, h3, h6, h4, h5⟩ := h; exact ⟨A, c, y, h1, h2, h3, h6, h4.gr hb.gr (fun a ha => by have := h5 a ha; omega), h5⟩) (stay_nil)))))) ?_ ?_
                          · simp only [List.take_succ_cons, List.take_zero]
                            refine steps_cons (Gs.refl) (fun ev xw hb hc hf hfr hd hr => ?_) ?_
                            · have e9 : ev (.tmp 9) = .pointer (some ⟨g9, 0, none⟩) := hfr 9 (by kernel_rfl)
                              clear hfr hd
                              have q0 := (hb.blk B9 hne9).at 0 rfl
                              have q1 := (hb.blk B9 hne9).at 1 rfl
                              have q2 := (hb.blk B9 hne9).at 2 rfl
                              show OpOk _ _ ev xw fun v w' => (Gs g) xw w' ∧ (v = .agg #[.int .i64 P, .int .i64 G, .slice A9 n c9])
                              refine opOk_hid (fun Rp HR => ?_)
                              unfold OpOk
                              go_simp
                              rw [HR.out]
                              exact ⟨hr, rfl⟩
                            refine steps_cons (Gs.refl) (fun ev xw hb hc hf hfr hd hr => ?_) ?_
                            · have e3 : ev (.tmp 3) = .pointer (some ⟨g, 0, none⟩) := hfr 3 (by kernel_rfl)
                              clear hfr hd
                              show OpOk _ _ ev xw fun v w' => (Gs g) xw w' ∧ (v = .pointer (some ⟨g, 0, none⟩))
                              refine opOk_hid (fun Rp HR => ?_)
                              unfold OpOk
                              go_simp
                              rw [HR.out]
                              exact ⟨hr, rfl⟩
                            refine steps_cons (Gs.refl) (fun ev xw hb hc hf hfr hd hr => ?_) ?_
                            · have e155 : ev (.tmp 155) = .pointer (some ⟨g, 0, none⟩) := hd 1 155 (by kernel_rfl)
                              clear hfr hd
                              show OpOk _ _ ev xw fun v w' => (Gs g) xw w' ∧ (∃ x : Int, v = .int .i64 x)
                              refine opOk_hid (fun Rp HR => ?_)
                              unfold OpOk
                              go_simp
                              refine (next_s g 3 xw (hb.gr.2 hdk) (by omega) (by omega)).mono ?_
                              rintro e w'' ⟨hw, _, x, x0, x1, rfl⟩
                              refine ⟨_, rfl, ?_⟩
                              rw [HR.out]
                              exact ⟨hw, x, rfl⟩
                            refine steps_cons (Gs.refl) (fun ev xw hb hc hf hfr hd hr => ?_) ?_
                            · obtain ⟨x156, e156⟩ : ∃ x : Int, ev (.tmp 156) = .int .i64 x := hd 2 156 (by kernel_rfl)
                              clear hfr hd
                              show OpOk _ _ ev xw fun v w' => (Gs g) xw w' ∧ (∃ x : Bool, v = .bool x)
                              refine opOk_hid (fun Rp HR => ?_)
                              unfold OpOk
                              go_simp
                              rw [HR.out]
                              exact ⟨hr, _, rfl⟩
                            refine steps_cons (Gs.refl) (fun ev xw hb hc hf hfr hd hr => ?_) ?_
                            · have e154 : ev (.tmp 154) = .agg #[.int .i64 P, .int .i64 G, .slice A9 n c9] := hd 0 154 (by kernel_rfl)
                              obtain ⟨x157, e157⟩ : ∃ x : Bool, ev (.tmp 157) = .bool x := hd 3 157 (by kernel_rfl)
                              clear hfr hd
                              show OpOk _ _ ev xw fun v w' => (Gs g) xw w' ∧ (∃ (A : Option Addr) (c : Nat) (y : Int), v = .agg #[.int .i64 P, .int .i64 y, .slice A n c] ∧ 0 ≤ y ∧ y ≤ 60 ∧ (P = -1 → y = 0) ∧ Ints .i64 w' (w').heap.size A E9 ∧ (∀ a, A = some a → W.heap.size ≤ a.block))
                              refine opOk_hid (fun Rp HR => ?_)
                              unfold OpOk
                              go_simp
                              have hIx := hI9.gr hb.gr hfar9
                              have hszx := hb.size
                              refine (count_any P G A9 n c9 E9 x157 xw hE9 hIx (by omega) (by omega) hG).mono ?_
                              intro e w'' hS
                              obtain ⟨A, c, rfl, hw, ho⟩ := hS
                              refine ⟨_, rfl, ?_⟩
                              rw [HR.out]
                              refine ⟨Gs.of_below hw, A, c, _, rfl, (grC_bd x157 P hG).1, (grC_bd x157 P hG).2, (fun h => by unfold grC; rw [if_neg (fun h2 => h2.2 h)]; exact HZ.out h), ho.intsN.1, fun a ha => ?_⟩
                              subst ha
                              have := (ho.lt rfl).1
                              show W.heap.size ≤ a.block
                              omega
                            exact steps_nil
                          · intro vs W5 hb5 hk
                            obtain ⟨A7, c7, y7, k7, l7, h7, m7, I7, z7⟩ : ∃ (A : Option Addr) (c : Nat) (y : Int), vs 4 = .agg #[.int .i64 P, .int .i64 y, .slice A n c] ∧ 0 ≤ y ∧ y ≤ 60 ∧ (P = -1 → y = 0) ∧ Ints .i64 W5 W5.heap.size A E9 ∧ (∀ a, A = some a → W.heap.size ≤ a.block) := hk 4 (by omega)
                            clear hk
                            simp only [List.take_succ_cons, List.take_zero, List.drop_succ_cons, List.drop_zero, putAll, Act.put, List.setIfInBounds_toArray, List.set_cons_zero, List.set_cons_succ, k7, Nat.reduceAdd, Nat.reduceSub]
                            clear k7
                            have C6 := hb5.blk B6 hne6
                            have CC := hb5.blk BC hneC
                            have hszW := hb5.size
                            have hD5 := hb5.2 r3 hdr
                            have bz5 := hb5.base bz hgw
                            refine wpList_store3 rfl rfl rfl rfl rfl C6 ⟨rfl, rfl, rfl⟩ ⟨_, _, rfl⟩ ⟨_, _, rfl⟩ ⟨_, _, _, rfl⟩ ?_
                            intro wN N6 gN
                            have NC := CC.grown gN (by intro e; injection e with e; omega)
                            have NI : Ints .i64 wN wN.heap.size A7 E9 := fun h0 => by
                              obtain ⟨bb, off, hA, hb, hc⟩ := I7 h0
                              have hzz := z7 _ hA
                              refine ⟨bb, off, hA, Nat.lt_of_lt_of_le hb gN.size, fun i hi => ?_⟩
                              rw [← hc i hi]
                              exact World.cell?_of_block (gN.block bb hb (fun e => by injection e with e; have : W.heap.size ≤ bb := hzz; omega))
                            have NB := bz5.grown gN bz5.size (fun k e => by injection e with e; omega)
                            obtain ⟨r5, hr5, hd5⟩ := hD5
                            have ND := hd5.other gN (by intro e; injection e with e; omega) (fun k e hk => by injection e with e; omega)
                            go_wp2
                            go_roundw
                            case rel => exact ⟨N + 1, P, y7, A7, c7, E9, r5, by omega, by simp, HP.out, ⟨l7, h7⟩, m7, hE9, (fun x hx => by have := hE9u x hx; omega), NC, N6, NI, (fun a ha => by have := z7 a ha; omega), NB, ND, by omega⟩
                            case measure =>
                              have e1 := ND.rest
                              have e2 := hdr0.rest
                              show restW _ _ < restW _ _
                              omega
                · have z3 : (G == 0) = false := by simpa using hG0
                  clear f1 f2 f3 f4 hPP hGh
                  as_aux_lemma =>
                    have o0 := B9q.at 0 rfl
                    have o1 := B9q.at 1 rfl
                    have o2 := B9q.at 2 rfl
                    have s0 := BCq.at 0 rfl
                    have s1 := BCq.at 1 rfl
                    have s2 := BCq.at 2 rfl
                    have s3 := BCq.at 3 rfl
                    have s4 := BCq.at 4 rfl
                    have s5 := BCq.at 5 rfl
                    go_wp2_with fail
                    clear o0 o1 o2 s0 s1 s2 s3 s4 s5
                    have o0 := B9q.laterN 0 rfl
                    have o1 := B9q.laterN 1 rfl
                    have o2 := B9q.laterN 2 rfl
                    have p0 := B6q.laterN 0 rfl
                    have p1 := B6q.laterN 1 rfl
                    have p2 := B6q.laterN 2 rfl
                    have s0 := BCq.laterN 0 rfl
                    have s1 := BCq.laterN 1 rfl
                    have s2 := BCq.laterN 2 rfl
                    have s3 := BCq.laterN 3 rfl
                    have s4 := BCq.laterN 4 rfl
                    have s5 := BCq.laterN 5 rfl
                    refine wp_region_grow (by kernel_rfl) (by kernel_rfl) ?_
                    repeat' (first
                        | go_big_quiet_skip
                        | (go_big_quiet_want; first
                            | (go_big_quiet_op; go_big_quiet_on)
                            | (refine quiet_det ?_; apply Exists.intro; refine ⟨fun w' hC => ?_, ?_⟩; (go_simp <;> (first | rfl | exact ⟨rfl, rfl⟩)); apply Exists.intro; refine ⟨?_, ?_⟩; (go_simp <;> (first | rfl | exact ⟨rfl, rfl⟩)); go_big_quiet_on)
                            | (show Oper.quiet _ { dst := _, op := .call { callee := .value _, args := _, argTypes := _ }, type := _, pos := _, after := _, guard := _ } _ _ _; refine quiet_call ?_; apply Exists.intro; apply Exists.intro; refine ⟨fun w' hC => ?_, ?_⟩; (go_simp <;> (first | rfl | exact ⟨rfl, rfl⟩)); apply Exists.intro; refine ⟨fun w' hC => ?_, ?_⟩; (first

                                | fail); apply Exists.intro; refine ⟨?_, ?_⟩; (go_simp <;> (first | rfl | exact ⟨rfl, rfl⟩)); go_big_quiet_on)))
                    all_goals refine wpQuiet_nil ?_
                    intro w3 hw3
                    clear o0 o1 o2 p0 p1 p2 s0 s1 s2 s3 s4 s5
                    (try clear z6); (try clear z5); (try clear z4); (try clear z3); (try clear z2); (try clear z1); (try clear hww); (try clear hx6)
                    have hneC : gc ≠ g := by omega
                    have hne6 : g6 ≠ g := by omega
                    have B9 := B9q.below hw3
                    have B6 := B6q.below hw3
                    have BC := BCq.below hw3
                    have hI9 := I9q.grow hw3
                    have hdr := hdq.below hw3
                    have hdk := hdr.ok
                    have bz := bzq.trans (hw3.mono bzq.size)
                    have hne9 := hneB9
                    have hlt9 := B9.lt
                    have hE9 := HE9.out
                    obtain ⟨r3, hr3⟩ : ∃ r3, r3 = r1 - 1 := ⟨_, rfl⟩
                    have hr3' : r3 ≤ r1 - 1 := by omega
                    rw [← hr3] at hdr
                    clear hr3 HGG
                    go_wp2_with fail
                    generalize hgW : w3 = W at *
                    clear hgW
                    refine wp_region_pre (R := (Gs g)) 5 160 [fun v _ => v = .agg #[.int .i64 P, .int .i64 G, .slice A9 n c9], fun v _ => v = .pointer (some ⟨g, 0, none⟩), fun v w => ∃ x : Int, v = .int .i64 x, fun v w => ∃ x : Bool, v = .bool x, fun v w => ∃ (A : Option Addr) (c : Nat) (y : Int), v = .agg #[.int .i64 P, .int .i64 y, .slice A n c] ∧ 0 ≤ y ∧ y ≤ 60 ∧ (P = -1 → y = 0) ∧ Ints .i64 w (w).heap.size A E9 ∧ (∀ a, A = some a → W.heap.size ≤ a.block)] (Gs.trans) (Gs.drew) (by kernel_rfl) (fun _ _ d _ _ h => by cases d <;> exact h) rfl (by kernel_rfl) (stay_cons (stays_v _) (stay_cons (stays_v _) (stay_cons (fun v _ _ h _ => h) (stay_cons (fun v _ _ h _ => h) (stay_cons (fun v w w1 h hb => by obtain ⟨A, c, y, h1, h2, h3, h6, h4, h5⟩ := h; exact ⟨A, c, y, h1, h2, h3, h6, h4.gr hb.gr (fun a ha => by have := h5 a ha; omega), h5⟩) (stay_nil)))))) ?_ ?_
                    · simp only [List.take_succ_cons, List.take_zero]
                      refine steps_cons (Gs.refl) (fun ev xw hb hc hf hfr hd hr => ?_) ?_
                      · have e9 : ev (.tmp 9) = .pointer (some ⟨g9, 0, none⟩) := hfr 9 (by kernel_rfl)
                        clear hfr hd
                        have q0 := (hb.blk B9 hne9).at 0 rfl
                        have q1 := (hb.blk B9 hne9).at 1 rfl
                        have q2 := (hb.blk B9 hne9).at 2 rfl
                        show OpOk _ _ ev xw fun v w' => (Gs g) xw w' ∧ (v = .agg #[.int .i64 P, .int .i64 G, .slice A9 n c9])
                        refine opOk_hid (fun Rp HR => ?_)
                        unfold OpOk
                        go_simp
                        rw [HR.out]
                        exact ⟨hr, rfl⟩
                      refine steps_cons (Gs.refl) (fun ev xw hb hc hf hfr hd hr => ?_) ?_
                      · have e3 : ev (.tmp 3) = .pointer (some ⟨g, 0, none⟩) := hfr 3 (by kernel_rfl)
                        clear hfr hd
                        show OpOk _ _ ev xw fun v w' => (Gs g) xw w' ∧ (v = .pointer (some ⟨g, 0, none⟩))
                        refine opOk_hid (fun Rp HR => ?_)
                        unfold OpOk
                        go_simp
                        rw [HR.out]
                        exact ⟨hr, rfl⟩
                      refine steps_cons (Gs.refl) (fun ev xw hb hc hf hfr hd hr => ?_) ?_
                      · have e155 : ev (.tmp 155) = .pointer (some ⟨g, 0, none⟩) := hd 1 155 (by kernel_rfl)
                        clear hfr hd
                        show OpOk _ _ ev xw fun v w' => (Gs g) xw w' ∧ (∃ x : Int, v = .int .i64 x)
                        refine opOk_hid (fun Rp HR => ?_)
                        unfold OpOk
                        go_simp
                        refine (next_s g 3 xw (hb.gr.2 hdk) (by omega) (by omega)).mono ?_
                        rintro e w'' ⟨hw, _, x, x0, x1, rfl⟩
                        refine ⟨_, rfl, ?_⟩
                        rw [HR.out]
                        exact ⟨hw, x, rfl⟩
                      refine steps_cons (Gs.refl) (fun ev xw hb hc hf hfr hd hr => ?_) ?_
                      · obtain ⟨x156, e156⟩ : ∃ x : Int, ev (.tmp 156) = .int .i64 x := hd 2 156 (by kernel_rfl)
                        clear hfr hd
                        show OpOk _ _ ev xw fun v w' => (Gs g) xw w' ∧ (∃ x : Bool, v = .bool x)
                        refine opOk_hid (fun Rp HR => ?_)
                        unfold OpOk
                        go_simp
                        rw [HR.out]
                        exact ⟨hr, _, rfl⟩
                      refine steps_cons (Gs.refl) (fun ev xw hb hc hf hfr hd hr => ?_) ?_
                      · have e154 : ev (.tmp 154) = .agg #[.int .i64 P, .int .i64 G, .slice A9 n c9] := hd 0 154 (by kernel_rfl)
                        obtain ⟨x157, e157⟩ : ∃ x : Bool, ev (.tmp 157) = .bool x := hd 3 157 (by kernel_rfl)
                        clear hfr hd
                        show OpOk _ _ ev xw fun v w' => (Gs g) xw w' ∧ (∃ (A : Option Addr) (c : Nat) (y : Int), v = .agg #[.int .i64 P, .int .i64 y, .slice A n c] ∧ 0 ≤ y ∧ y ≤ 60 ∧ (P = -1 → y = 0) ∧ Ints .i64 w' (w').heap.size A E9 ∧ (∀ a, A = some a → W.heap.size ≤ a.block))
                        refine opOk_hid (fun Rp HR => ?_)
                        unfold OpOk
                        go_simp
                        have hIx := hI9.gr hb.gr hfar9
                        have hszx := hb.size
                        refine (count_any P G A9 n c9 E9 x157 xw hE9 hIx (by omega) (by omega) hG).mono ?_
                        intro e w'' hS
                        obtain ⟨A, c, rfl, hw, ho⟩ := hS
                        refine ⟨_, rfl, ?_⟩
                        rw [HR.out]
                        refine ⟨Gs.of_below hw, A, c, _, rfl, (grC_bd x157 P hG).1, (grC_bd x157 P hG).2, (fun h => by unfold grC; rw [if_neg (fun h2 => h2.2 h)]; exact HZ.out h), ho.intsN.1, fun a ha => ?_⟩
                        subst ha
                        have := (ho.lt rfl).1
                        show W.heap.size ≤ a.block
                        omega
                      exact steps_nil
                    · intro vs W5 hb5 hk
                      obtain ⟨A7, c7, y7, k7, l7, h7, m7, I7, z7⟩ : ∃ (A : Option Addr) (c : Nat) (y : Int), vs 4 = .agg #[.int .i64 P, .int .i64 y, .slice A n c] ∧ 0 ≤ y ∧ y ≤ 60 ∧ (P = -1 → y = 0) ∧ Ints .i64 W5 W5.heap.size A E9 ∧ (∀ a, A = some a → W.heap.size ≤ a.block) := hk 4 (by omega)
                      clear hk
                      simp only [List.take_succ_cons, List.take_zero, List.drop_succ_cons, List.drop_zero, putAll, Act.put, List.setIfInBounds_toArray, List.set_cons_zero, List.set_cons_succ, k7, Nat.reduceAdd, Nat.reduceSub]
                      clear k7
                      have C6 := hb5.blk B6 hne6
                      have CC := hb5.blk BC hneC
                      have hszW := hb5.size
                      have hD5 := hb5.2 r3 hdr
                      have bz5 := hb5.base bz hgw
                      refine wpList_store3 rfl rfl rfl rfl rfl C6 ⟨rfl, rfl, rfl⟩ ⟨_, _, rfl⟩ ⟨_, _, rfl⟩ ⟨_, _, _, rfl⟩ ?_
                      intro wN N6 gN
                      have NC := CC.grown gN (by intro e; injection e with e; omega)
                      have NI : Ints .i64 wN wN.heap.size A7 E9 := fun h0 => by
                        obtain ⟨bb, off, hA, hb, hc⟩ := I7 h0
                        have hzz := z7 _ hA
                        refine ⟨bb, off, hA, Nat.lt_of_lt_of_le hb gN.size, fun i hi => ?_⟩
                        rw [← hc i hi]
                        exact World.cell?_of_block (gN.block bb hb (fun e => by injection e with e; have : W.heap.size ≤ bb := hzz; omega))
                      have NB := bz5.grown gN bz5.size (fun k e => by injection e with e; omega)
                      obtain ⟨r5, hr5, hd5⟩ := hD5
                      have ND := hd5.other gN (by intro e; injection e with e; omega) (fun k e hk => by injection e with e; omega)
                      go_wp2
                      go_roundw
                      case rel => exact ⟨N + 1, P, y7, A7, c7, E9, r5, by omega, by simp, HP.out, ⟨l7, h7⟩, m7, hE9, (fun x hx => by have := hE9u x hx; omega), NC, N6, NI, (fun a ha => by have := z7 a ha; omega), NB, ND, by omega⟩
                      case measure =>
                        have e1 := ND.rest
                        have e2 := hdr0.rest
                        show restW _ _ < restW _ _
                        omega
            | true => cases bo with
              | false => exact absurd (f2 rfl) (by simp)
              | true =>
                rcases Int.lt_or_le P 0 with hP0 | hP0
                · have z1 : decide (P ≥ 0) = false := by simpa using hP0
                  clear f1 f2 f3 f4 hPP
                  as_aux_lemma =>
                    have o0 := B9q.at 0 rfl
                    have o1 := B9q.at 1 rfl
                    have o2 := B9q.at 2 rfl
                    have s0 := BCq.at 0 rfl
                    have s1 := BCq.at 1 rfl
                    have s2 := BCq.at 2 rfl
                    have s3 := BCq.at 3 rfl
                    have s4 := BCq.at 4 rfl
                    have s5 := BCq.at 5 rfl
                    go_wp2_with fail
                    clear o0 o1 o2 s0 s1 s2 s3 s4 s5
                    have o0 := B9q.laterN 0 rfl
                    have o1 := B9q.laterN 1 rfl
                    have o2 := B9q.laterN 2 rfl
                    have p0 := B6q.laterN 0 rfl
                    have p1 := B6q.laterN 1 rfl
                    have p2 := B6q.laterN 2 rfl
                    have s0 := BCq.laterN 0 rfl
                    have s1 := BCq.laterN 1 rfl
                    have s2 := BCq.laterN 2 rfl
                    have s3 := BCq.laterN 3 rfl
                    have s4 := BCq.laterN 4 rfl
                    have s5 := BCq.laterN 5 rfl
                    refine wp_region_grow (by kernel_rfl) (by kernel_rfl) ?_
                    repeat' (first
                        | go_big_quiet_skip
                        | (go_big_quiet_want; first
                            | (go_big_quiet_op; go_big_quiet_on)
                            | (refine quiet_det ?_; apply Exists.intro; refine ⟨fun w' hC => ?_, ?_⟩; (go_simp <;> (first | rfl | exact ⟨rfl, rfl⟩)); apply Exists.intro; refine ⟨?_, ?_⟩; (go_simp <;> (first | rfl | exact ⟨rfl, rfl⟩)); go_big_quiet_on)
                            | (show Oper.quiet _ { dst := _, op := .call { callee := .value _, args := _, argTypes := _ }, type := _, pos := _, after := _, guard := _ } _ _ _; refine quiet_call ?_; apply Exists.intro; apply Exists.intro; refine ⟨fun w' hC => ?_, ?_⟩; (go_simp <;> (first | rfl | exact ⟨rfl, rfl⟩)); apply Exists.intro; refine ⟨fun w' hC => ?_, ?_⟩; (first

                                | fail); apply Exists.intro; refine ⟨?_, ?_⟩; (go_simp <;> (first | rfl | exact ⟨rfl, rfl⟩)); go_big_quiet_on)))
                    all_goals refine wpQuiet_nil ?_
                    intro w3 hw3
                    clear o0 o1 o2 p0 p1 p2 s0 s1 s2 s3 s4 s5
                    (try clear z6); (try clear z5); (try clear z4); (try clear z3); (try clear z2); (try clear z1); (try clear hww); (try clear hx6)
                    have hneC : gc ≠ g := by omega
                    have hne6 : g6 ≠ g := by omega
                    have B9 := B9q.below hw3
                    have B6 := B6q.below hw3
                    have BC := BCq.below hw3
                    have hI9 := I9q.grow hw3
                    have hdr := hdq.below hw3
                    have hdk := hdr.ok
                    have bz := bzq.trans (hw3.mono bzq.size)
                    have hne9 := hneB9
                    have hlt9 := B9.lt
                    have hE9 := HE9.out
                    obtain ⟨r3, hr3⟩ : ∃ r3, r3 = r1 - 1 := ⟨_, rfl⟩
                    have hr3' : r3 ≤ r1 - 1 := by omega
                    rw [← hr3] at hdr
                    clear hr3 HGG
                    go_wp2_with fail
                    generalize hgW : w3 = W at *
                    clear hgW
                    refine wp_region_pre (R := (Gs g)) 5 160 [fun v _ => v = .agg #[.int .i64 P, .int .i64 G, .slice A9 n c9], fun v _ => v = .pointer (some ⟨g, 0, none⟩), fun v w => ∃ x : Int, v = .int .i64 x, fun v w => ∃ x : Bool, v = .bool x, fun v w => ∃ (A : Option Addr) (c : Nat) (y : Int), v = .agg #[.int .i64 P, .int .i64 y, .slice A n c] ∧ 0 ≤ y ∧ y ≤ 60 ∧ (P = -1 → y = 0) ∧ Ints .i64 w (w).heap.size A E9 ∧ (∀ a, A = some a → W.heap.size ≤ a.block)] (Gs.trans) (Gs.drew) (by kernel_rfl) (fun _ _ d _ _ h => by cases d <;> exact h) rfl (by kernel_rfl) (stay_cons (stays_v _) (stay_cons (stays_v _) (stay_cons (fun v _ _ h _ => h) (stay_cons (fun v _ _ h _ => h) (stay_cons (fun v w w1 h hb => by obtain ⟨A, c, y, h1, h2, h3, h6, h4, h5⟩ := h; exact ⟨A, c, y, h1, h2, h3, h6, h4.gr hb.gr (fun a ha => by have := h5 a ha; omega), h5⟩) (stay_nil)))))) ?_ ?_
                    · simp only [List.take_succ_cons, List.take_zero]
                      refine steps_cons (Gs.refl) (fun ev xw hb hc hf hfr hd hr => ?_) ?_
                      · have e9 : ev (.tmp 9) = .pointer (some ⟨g9, 0, none⟩) := hfr 9 (by kernel_rfl)
                        clear hfr hd
                        have q0 := (hb.blk B9 hne9).at 0 rfl
                        have q1 := (hb.blk B9 hne9).at 1 rfl
                        have q2 := (hb.blk B9 hne9).at 2 rfl
                        show OpOk _ _ ev xw fun v w' => (Gs g) xw w' ∧ (v = .agg #[.int .i64 P, .int .i64 G, .slice A9 n c9])
                        refine opOk_hid (fun Rp HR => ?_)
                        unfold OpOk
                        go_simp
                        rw [HR.out]
                        exact ⟨hr, rfl⟩
                      refine steps_cons (Gs.refl) (fun ev xw hb hc hf hfr hd hr => ?_) ?_
                      · have e3 : ev (.tmp 3) = .pointer (some ⟨g, 0, none⟩) := hfr 3 (by kernel_rfl)
                        clear hfr hd
                        show OpOk _ _ ev xw fun v w' => (Gs g) xw w' ∧ (v = .pointer (some ⟨g, 0, none⟩))
                        refine opOk_hid (fun Rp HR => ?_)
                        unfold OpOk
                        go_simp
                        rw [HR.out]
                        exact ⟨hr, rfl⟩
                      refine steps_cons (Gs.refl) (fun ev xw hb hc hf hfr hd hr => ?_) ?_
                      · have e155 : ev (.tmp 155) = .pointer (some ⟨g, 0, none⟩) := hd 1 155 (by kernel_rfl)
                        clear hfr hd
                        show OpOk _ _ ev xw fun v w' => (Gs g) xw w' ∧ (∃ x : Int, v = .int .i64 x)
                        refine opOk_hid (fun Rp HR => ?_)
                        unfold OpOk
                        go_simp
                        refine (next_s g 3 xw (hb.gr.2 hdk) (by omega) (by omega)).mono ?_
                        rintro e w'' ⟨hw, _, x, x0, x1, rfl⟩
                        refine ⟨_, rfl, ?_⟩
                        rw [HR.out]
                        exact ⟨hw, x, rfl⟩
                      refine steps_cons (Gs.refl) (fun ev xw hb hc hf hfr hd hr => ?_) ?_
                      · obtain ⟨x156, e156⟩ : ∃ x : Int, ev (.tmp 156) = .int .i64 x := hd 2 156 (by kernel_rfl)
                        clear hfr hd
                        show OpOk _ _ ev xw fun v w' => (Gs g) xw w' ∧ (∃ x : Bool, v = .bool x)
                        refine opOk_hid (fun Rp HR => ?_)
                        unfold OpOk
                        go_simp
                        rw [HR.out]
                        exact ⟨hr, _, rfl⟩
                      refine steps_cons (Gs.refl) (fun ev xw hb hc hf hfr hd hr => ?_) ?_
                      · have e154 : ev (.tmp 154) = .agg #[.int .i64 P, .int .i64 G, .slice A9 n c9] := hd 0 154 (by kernel_rfl)
                        obtain ⟨x157, e157⟩ : ∃ x : Bool, ev (.tmp 157) = .bool x := hd 3 157 (by kernel_rfl)
                        clear hfr hd
                        show OpOk _ _ ev xw fun v w' => (Gs g) xw w' ∧ (∃ (A : Option Addr) (c : Nat) (y : Int), v = .agg #[.int .i64 P, .int .i64 y, .slice A n c] ∧ 0 ≤ y ∧ y ≤ 60 ∧ (P = -1 → y = 0) ∧ Ints .i64 w' (w').heap.size A E9 ∧ (∀ a, A = some a → W.heap.size ≤ a.block))
                        refine opOk_hid (fun Rp HR => ?_)
                        unfold OpOk
                        go_simp
                        have hIx := hI9.gr hb.gr hfar9
                        have hszx := hb.size
                        refine (count_any P G A9 n c9 E9 x157 xw hE9 hIx (by omega) (by omega) hG).mono ?_
                        intro e w'' hS
                        obtain ⟨A, c, rfl, hw, ho⟩ := hS
                        refine ⟨_, rfl, ?_⟩
                        rw [HR.out]
                        refine ⟨Gs.of_below hw, A, c, _, rfl, (grC_bd x157 P hG).1, (grC_bd x157 P hG).2, (fun h => by unfold grC; rw [if_neg (fun h2 => h2.2 h)]; exact HZ.out h), ho.intsN.1, fun a ha => ?_⟩
                        subst ha
                        have := (ho.lt rfl).1
                        show W.heap.size ≤ a.block
                        omega
                      exact steps_nil
                    · intro vs W5 hb5 hk
                      obtain ⟨A7, c7, y7, k7, l7, h7, m7, I7, z7⟩ : ∃ (A : Option Addr) (c : Nat) (y : Int), vs 4 = .agg #[.int .i64 P, .int .i64 y, .slice A n c] ∧ 0 ≤ y ∧ y ≤ 60 ∧ (P = -1 → y = 0) ∧ Ints .i64 W5 W5.heap.size A E9 ∧ (∀ a, A = some a → W.heap.size ≤ a.block) := hk 4 (by omega)
                      clear hk
                      simp only [List.take_succ_cons, List.take_zero, List.drop_succ_cons, List.drop_zero, putAll, Act.put, List.setIfInBounds_toArray, List.set_cons_zero, List.set_cons_succ, k7, Nat.reduceAdd, Nat.reduceSub]
                      clear k7
                      have C6 := hb5.blk B6 hne6
                      have CC := hb5.blk BC hneC
                      have hszW := hb5.size
                      have hD5 := hb5.2 r3 hdr
                      have bz5 := hb5.base bz hgw
                      refine wpList_store3 rfl rfl rfl rfl rfl C6 ⟨rfl, rfl, rfl⟩ ⟨_, _, rfl⟩ ⟨_, _, rfl⟩ ⟨_, _, _, rfl⟩ ?_
                      intro wN N6 gN
                      have NC := CC.grown gN (by intro e; injection e with e; omega)
                      have NI : Ints .i64 wN wN.heap.size A7 E9 := fun h0 => by
                        obtain ⟨bb, off, hA, hb, hc⟩ := I7 h0
                        have hzz := z7 _ hA
                        refine ⟨bb, off, hA, Nat.lt_of_lt_of_le hb gN.size, fun i hi => ?_⟩
                        rw [← hc i hi]
                        exact World.cell?_of_block (gN.block bb hb (fun e => by injection e with e; have : W.heap.size ≤ bb := hzz; omega))
                      have NB := bz5.grown gN bz5.size (fun k e => by injection e with e; omega)
                      obtain ⟨r5, hr5, hd5⟩ := hD5
                      have ND := hd5.other gN (by intro e; injection e with e; omega) (fun k e hk => by injection e with e; omega)
                      go_wp2
                      go_roundw
                      case rel => exact ⟨N + 1, P, y7, A7, c7, E9, r5, by omega, by simp, HP.out, ⟨l7, h7⟩, m7, hE9, (fun x hx => by have := hE9u x hx; omega), NC, N6, NI, (fun a ha => by have := z7 a ha; omega), NB, ND, by omega⟩
                      case measure =>
                        have e1 := ND.rest
                        have e2 := hdr0.rest
                        show restW _ _ < restW _ _
                        omega
                · have z1 : decide (P ≥ 0) = true := by simpa using hP0
                  have hbq1 : bq = true := (f1 hP0).1
                  subst hbq1
                  have hGh := (f1 hP0).2
                  have z2 : decide (G ≥ hold) = false := by simpa using hGh
                  have hP1 := hPP.2
                  by_cases hG0 : G = 0
                  · have z3 : (G == 0) = true := by simpa using hG0
                    by_cases hph9 : ph = P
                    · have z4 : (ph != P) = false := by simpa using hph9
                      clear f1 f2 f3 f4 hPP hGh hG0 hph9
                      as_aux_lemma =>
                        have o0 := B9q.at 0 rfl
                        have o1 := B9q.at 1 rfl
                        have o2 := B9q.at 2 rfl
                        have s0 := BCq.at 0 rfl
                        have s1 := BCq.at 1 rfl
                        have s2 := BCq.at 2 rfl
                        have s3 := BCq.at 3 rfl
                        have s4 := BCq.at 4 rfl
                        have s5 := BCq.at 5 rfl
                        go_wp2_with fail
                        clear o0 o1 o2 s0 s1 s2 s3 s4 s5
                        have o0 := B9q.laterN 0 rfl
                        have o1 := B9q.laterN 1 rfl
                        have o2 := B9q.laterN 2 rfl
                        have p0 := B6q.laterN 0 rfl
                        have p1 := B6q.laterN 1 rfl
                        have p2 := B6q.laterN 2 rfl
                        have s0 := BCq.laterN 0 rfl
                        have s1 := BCq.laterN 1 rfl
                        have s2 := BCq.laterN 2 rfl
                        have s3 := BCq.laterN 3 rfl
                        have s4 := BCq.laterN 4 rfl
                        have s5 := BCq.laterN 5 rfl
                        refine wp_region_grow (by kernel_rfl) (by kernel_rfl) ?_
                        repeat' (first
                            | go_big_quiet_skip
                            | (go_big_quiet_want; first
                                | (go_big_quiet_op; go_big_quiet_on)
                                | (refine quiet_det ?_; apply Exists.intro; refine ⟨fun w' hC => ?_, ?_⟩; (go_simp <;> (first | rfl | exact ⟨rfl, rfl⟩)); apply Exists.intro; refine ⟨?_, ?_⟩; (go_simp <;> (first | rfl | exact ⟨rfl, rfl⟩)); go_big_quiet_on)
                                | (show Oper.quiet _ { dst := _, op := .call { callee := .value _, args := _, argTypes := _ }, type := _, pos := _, after := _, guard := _ } _ _ _; refine quiet_call ?_; apply Exists.intro; apply Exists.intro; refine ⟨fun w' hC => ?_, ?_⟩; (go_simp <;> (first | rfl | exact ⟨rfl, rfl⟩)); apply Exists.intro; refine ⟨fun w' hC => ?_, ?_⟩; (first

                                    | fail); apply Exists.intro; refine ⟨?_, ?_⟩; (go_simp <;> (first | rfl | exact ⟨rfl, rfl⟩)); go_big_quiet_on)))
                        all_goals refine wpQuiet_nil ?_
                        intro w3 hw3
                        clear o0 o1 o2 p0 p1 p2 s0 s1 s2 s3 s4 s5
                        (try clear z6); (try clear z5); (try clear z4); (try clear z3); (try clear z2); (try clear z1); (try clear hww); (try clear hx6)
                        have hneC : gc ≠ g := by omega
                        have hne6 : g6 ≠ g := by omega
                        have B9 := B9q.below hw3
                        have B6 := B6q.below hw3
                        have BC := BCq.below hw3
                        have hI9 := I9q.grow hw3
                        have hdr := hdq.below hw3
                        have hdk := hdr.ok
                        have bz := bzq.trans (hw3.mono bzq.size)
                        have hne9 := hneB9
                        have hlt9 := B9.lt
                        have hE9 := HE9.out
                        obtain ⟨r3, hr3⟩ : ∃ r3, r3 = r1 - 1 := ⟨_, rfl⟩
                        have hr3' : r3 ≤ r1 - 1 := by omega
                        rw [← hr3] at hdr
                        clear hr3 HGG
                        go_wp2_with fail
                        generalize hgW : w3 = W at *
                        clear hgW
                        refine wp_region_pre (R := (Gs g)) 5 160 [fun v _ => v = .agg #[.int .i64 P, .int .i64 G, .slice A9 n c9], fun v _ => v = .pointer (some ⟨g, 0, none⟩), fun v w => ∃ x : Int, v = .int .i64 x, fun v w => ∃ x : Bool, v = .bool x, fun v w => ∃ (A : Option Addr) (c : Nat) (y : Int), v = .agg #[.int .i64 P, .int .i64 y, .slice A n c] ∧ 0 ≤ y ∧ y ≤ 60 ∧ (P = -1 → y = 0) ∧ Ints .i64 w (w).heap.size A E9 ∧ (∀ a, A = some a → W.heap.size ≤ a.block)] (Gs.trans) (Gs.drew) (by kernel_rfl) (fun _ _ d _ _ h => by cases d <;> exact h) rfl (by kernel_rfl) (stay_cons (stays_v _) (stay_cons (stays_v _) (stay_cons (fun v _ _ h _ => h) (stay_cons (fun v _ _ h _ => h) (stay_cons (fun v w w1 h hb => by obtain ⟨A, c, y, h1, h2, h3, h6, h4, h5⟩ := h; exact ⟨A, c, y, h1, h2, h3, h6, h4.gr hb.gr (fun a ha => by have := h5 a ha; omega), h5⟩) (stay_nil)))))) ?_ ?_
                        · simp only [List.take_succ_cons, List.take_zero]
                          refine steps_cons (Gs.refl) (fun ev xw hb hc hf hfr hd hr => ?_) ?_
                          · have e9 : ev (.tmp 9) = .pointer (some ⟨g9, 0, none⟩) := hfr 9 (by kernel_rfl)
                            clear hfr hd
                            have q0 := (hb.blk B9 hne9).at 0 rfl
                            have q1 := (hb.blk B9 hne9).at 1 rfl
                            have q2 := (hb.blk B9 hne9).at 2 rfl
                            show OpOk _ _ ev xw fun v w' => (Gs g) xw w' ∧ (v = .agg #[.int .i64 P, .int .i64 G, .slice A9 n c9])
                            refine opOk_hid (fun Rp HR => ?_)
                            unfold OpOk
                            go_simp
                            rw [HR.out]
                            exact ⟨hr, rfl⟩
                          refine steps_cons (Gs.refl) (fun ev xw hb hc hf hfr hd hr => ?_) ?_
                          · have e3 : ev (.tmp 3) = .pointer (some ⟨g, 0, none⟩) := hfr 3 (by kernel_rfl)
                            clear hfr hd
                            show OpOk _ _ ev xw fun v w' => (Gs g) xw w' ∧ (v = .pointer (some ⟨g, 0, none⟩))
                            refine opOk_hid (fun Rp HR => ?_)
                            unfold OpOk
                            go_simp
                            rw [HR.out]
                            exact ⟨hr, rfl⟩
                          refine steps_cons (Gs.refl) (fun ev xw hb hc hf hfr hd hr => ?_) ?_
                          · have e155 : ev (.tmp 155) = .pointer (some ⟨g, 0, none⟩) := hd 1 155 (by kernel_rfl)
                            clear hfr hd
                            show OpOk _ _ ev xw fun v w' => (Gs g) xw w' ∧ (∃ x : Int, v = .int .i64 x)
                            refine opOk_hid (fun Rp HR => ?_)
                            unfold OpOk
                            go_simp
                            refine (next_s g 3 xw (hb.gr.2 hdk) (by omega) (by omega)).mono ?_
                            rintro e w'' ⟨hw, _, x, x0, x1, rfl⟩
                            refine ⟨_, rfl, ?_⟩
                            rw [HR.out]
                            exact ⟨hw, x, rfl⟩
                          refine steps_cons (Gs.refl) (fun ev xw hb hc hf hfr hd hr => ?_) ?_
                          · obtain ⟨x156, e156⟩ : ∃ x : Int, ev (.tmp 156) = .int .i64 x := hd 2 156 (by kernel_rfl)
                            clear hfr hd
                            show OpOk _ _ ev xw fun v w' => (Gs g) xw w' ∧ (∃ x : Bool, v = .bool x)
                            refine opOk_hid (fun Rp HR => ?_)
                            unfold OpOk
                            go_simp
                            rw [HR.out]
                            exact ⟨hr, _, rfl⟩
                          refine steps_cons (Gs.refl) (fun ev xw hb hc hf hfr hd hr => ?_) ?_
                          · have e154 : ev (.tmp 154) = .agg #[.int .i64 P, .int .i64 G, .slice A9 n c9] := hd 0 154 (by kernel_rfl)
                            obtain ⟨x157, e157⟩ : ∃ x : Bool, ev (.tmp 157) = .bool x := hd 3 157 (by kernel_rfl)
                            clear hfr hd
                            show OpOk _ _ ev xw fun v w' => (Gs g) xw w' ∧ (∃ (A : Option Addr) (c : Nat) (y : Int), v = .agg #[.int .i64 P, .int .i64 y, .slice A n c] ∧ 0 ≤ y ∧ y ≤ 60 ∧ (P = -1 → y = 0) ∧ Ints .i64 w' (w').heap.size A E9 ∧ (∀ a, A = some a → W.heap.size ≤ a.block))
                            refine opOk_hid (fun Rp HR => ?_)
                            unfold OpOk
                            go_simp
                            have hIx := hI9.gr hb.gr hfar9
                            have hszx := hb.size
                            refine (count_any P G A9 n c9 E9 x157 xw hE9 hIx (by omega) (by omega) hG).mono ?_
                            intro e w'' hS
                            obtain ⟨A, c, rfl, hw, ho⟩ := hS
                            refine ⟨_, rfl, ?_⟩
                            rw [HR.out]
                            refine ⟨Gs.of_below hw, A, c, _, rfl, (grC_bd x157 P hG).1, (grC_bd x157 P hG).2, (fun h => by unfold grC; rw [if_neg (fun h2 => h2.2 h)]; exact HZ.out h), ho.intsN.1, fun a ha => ?_⟩
                            subst ha
                            have := (ho.lt rfl).1
                            show W.heap.size ≤ a.block
                            omega
                          exact steps_nil
                        · intro vs W5 hb5 hk
                          obtain ⟨A7, c7, y7, k7, l7, h7, m7, I7, z7⟩ : ∃ (A : Option Addr) (c : Nat) (y : Int), vs 4 = .agg #[.int .i64 P, .int .i64 y, .slice A n c] ∧ 0 ≤ y ∧ y ≤ 60 ∧ (P = -1 → y = 0) ∧ Ints .i64 W5 W5.heap.size A E9 ∧ (∀ a, A = some a → W.heap.size ≤ a.block) := hk 4 (by omega)
                          clear hk
                          simp only [List.take_succ_cons, List.take_zero, List.drop_succ_cons, List.drop_zero, putAll, Act.put, List.setIfInBounds_toArray, List.set_cons_zero, List.set_cons_succ, k7, Nat.reduceAdd, Nat.reduceSub]
                          clear k7
                          have C6 := hb5.blk B6 hne6
                          have CC := hb5.blk BC hneC
                          have hszW := hb5.size
                          have hD5 := hb5.2 r3 hdr
                          have bz5 := hb5.base bz hgw
                          refine wpList_store3 rfl rfl rfl rfl rfl C6 ⟨rfl, rfl, rfl⟩ ⟨_, _, rfl⟩ ⟨_, _, rfl⟩ ⟨_, _, _, rfl⟩ ?_
                          intro wN N6 gN
                          have NC := CC.grown gN (by intro e; injection e with e; omega)
                          have NI : Ints .i64 wN wN.heap.size A7 E9 := fun h0 => by
                            obtain ⟨bb, off, hA, hb, hc⟩ := I7 h0
                            have hzz := z7 _ hA
                            refine ⟨bb, off, hA, Nat.lt_of_lt_of_le hb gN.size, fun i hi => ?_⟩
                            rw [← hc i hi]
                            exact World.cell?_of_block (gN.block bb hb (fun e => by injection e with e; have : W.heap.size ≤ bb := hzz; omega))
                          have NB := bz5.grown gN bz5.size (fun k e => by injection e with e; omega)
                          obtain ⟨r5, hr5, hd5⟩ := hD5
                          have ND := hd5.other gN (by intro e; injection e with e; omega) (fun k e hk => by injection e with e; omega)
                          go_wp2
                          go_roundw
                          case rel => exact ⟨N + 1, P, y7, A7, c7, E9, r5, by omega, by simp, HP.out, ⟨l7, h7⟩, m7, hE9, (fun x hx => by have := hE9u x hx; omega), NC, N6, NI, (fun a ha => by have := z7 a ha; omega), NB, ND, by omega⟩
                          case measure =>
                            have e1 := ND.rest
                            have e2 := hdr0.rest
                            show restW _ _ < restW _ _
                            omega
                    · have z4 : (ph != P) = true := by simpa using hph9
                      clear f1 f2 f3 f4 hPP hGh hG0 hph9
                      as_aux_lemma =>
                        have o0 := B9q.at 0 rfl
                        have o1 := B9q.at 1 rfl
                        have o2 := B9q.at 2 rfl
                        have s0 := BCq.at 0 rfl
                        have s1 := BCq.at 1 rfl
                        have s2 := BCq.at 2 rfl
                        have s3 := BCq.at 3 rfl
                        have s4 := BCq.at 4 rfl
                        have s5 := BCq.at 5 rfl
                        go_wp2_with fail
                        clear o0 o1 o2 s0 s1 s2 s3 s4 s5
                        have o0 := B9q.laterN 0 rfl
                        have o1 := B9q.laterN 1 rfl
                        have o2 := B9q.laterN 2 rfl
                        have p0 := B6q.laterN 0 rfl
                        have p1 := B6q.laterN 1 rfl
                        have p2 := B6q.laterN 2 rfl
                        have s0 := BCq.laterN 0 rfl
                        have s1 := BCq.laterN 1 rfl
                        have s2 := BCq.laterN 2 rfl
                        have s3 := BCq.laterN 3 rfl
                        have s4 := BCq.laterN 4 rfl
                        have s5 := BCq.laterN 5 rfl
                        refine wp_region_grow (by kernel_rfl) (by kernel_rfl) ?_
                        repeat' (first
                            | go_big_quiet_skip
                            | (go_big_quiet_want; first
                                | (go_big_quiet_op; go_big_quiet_on)
                                | (refine quiet_det ?_; apply Exists.intro; refine ⟨fun w' hC => ?_, ?_⟩; (go_simp <;> (first | rfl | exact ⟨rfl, rfl⟩)); apply Exists.intro; refine ⟨?_, ?_⟩; (go_simp <;> (first | rfl | exact ⟨rfl, rfl⟩)); go_big_quiet_on)
                                | (show Oper.quiet _ { dst := _, op := .call { callee := .value _, args := _, argTypes := _ }, type := _, pos := _, after := _, guard := _ } _ _ _; refine quiet_call ?_; apply Exists.intro; apply Exists.intro; refine ⟨fun w' hC => ?_, ?_⟩; (go_simp <;> (first | rfl | exact ⟨rfl, rfl⟩)); apply Exists.intro; refine ⟨fun w' hC => ?_, ?_⟩; (first

                                    | fail); apply Exists.intro; refine ⟨?_, ?_⟩; (go_simp <;> (first | rfl | exact ⟨rfl, rfl⟩)); go_big_quiet_on)))
                        all_goals refine wpQuiet_nil ?_
                        intro w3 hw3
                        clear o0 o1 o2 p0 p1 p2 s0 s1 s2 s3 s4 s5
                        (try clear z6); (try clear z5); (try clear z4); (try clear z3); (try clear z2); (try clear z1); (try clear hww); (try clear hx6)
                        have hneC : gc ≠ g := by omega
                        have hne6 : g6 ≠ g := by omega
                        have B9 := B9q.below hw3
                        have B6 := B6q.below hw3
                        have BC := BCq.below hw3
                        have hI9 := I9q.grow hw3
                        have hdr := hdq.below hw3
                        have hdk := hdr.ok
                        have bz := bzq.trans (hw3.mono bzq.size)
                        have hne9 := hneB9
                        have hlt9 := B9.lt
                        have hE9 := HE9.out
                        obtain ⟨r3, hr3⟩ : ∃ r3, r3 = r1 - 1 := ⟨_, rfl⟩
                        have hr3' : r3 ≤ r1 - 1 := by omega
                        rw [← hr3] at hdr
                        clear hr3 HGG
                        go_wp2_with fail
                        generalize hgW : w3 = W at *
                        clear hgW
                        refine wp_region_pre (R := (Gs g)) 5 160 [fun v _ => v = .agg #[.int .i64 P, .int .i64 G, .slice A9 n c9], fun v _ => v = .pointer (some ⟨g, 0, none⟩), fun v w => ∃ x : Int, v = .int .i64 x, fun v w => ∃ x : Bool, v = .bool x, fun v w => ∃ (A : Option Addr) (c : Nat) (y : Int), v = .agg #[.int .i64 P, .int .i64 y, .slice A n c] ∧ 0 ≤ y ∧ y ≤ 60 ∧ (P = -1 → y = 0) ∧ Ints .i64 w (w).heap.size A E9 ∧ (∀ a, A = some a → W.heap.size ≤ a.block)] (Gs.trans) (Gs.drew) (by kernel_rfl) (fun _ _ d _ _ h => by cases d <;> exact h) rfl (by kernel_rfl) (stay_cons (stays_v _) (stay_cons (stays_v _) (stay_cons (fun v _ _ h _ => h) (stay_cons (fun v _ _ h _ => h) (stay_cons (fun v w w1 h hb => by obtain ⟨A, c, y, h1, h2, h3, h6, h4, h5⟩ := h; exact ⟨A, c, y, h1, h2, h3, h6, h4.gr hb.gr (fun a ha => by have := h5 a ha; omega), h5⟩) (stay_nil)))))) ?_ ?_
                        · simp only [List.take_succ_cons, List.take_zero]
                          refine steps_cons (Gs.refl) (fun ev xw hb hc hf hfr hd hr => ?_) ?_
                          · have e9 : ev (.tmp 9) = .pointer (some ⟨g9, 0, none⟩) := hfr 9 (by kernel_rfl)
                            clear hfr hd
                            have q0 := (hb.blk B9 hne9).at 0 rfl
                            have q1 := (hb.blk B9 hne9).at 1 rfl
                            have q2 := (hb.blk B9 hne9).at 2 rfl
                            show OpOk _ _ ev xw fun v w' => (Gs g) xw w' ∧ (v = .agg #[.int .i64 P, .int .i64 G, .slice A9 n c9])
                            refine opOk_hid (fun Rp HR => ?_)
                            unfold OpOk
                            go_simp
                            rw [HR.out]
                            exact ⟨hr, rfl⟩
                          refine steps_cons (Gs.refl) (fun ev xw hb hc hf hfr hd hr => ?_) ?_
                          · have e3 : ev (.tmp 3) = .pointer (some ⟨g, 0, none⟩) := hfr 3 (by kernel_rfl)
                            clear hfr hd
                            show OpOk _ _ ev xw fun v w' => (Gs g) xw w' ∧ (v = .pointer (some ⟨g, 0, none⟩))
                            refine opOk_hid (fun Rp HR => ?_)
                            unfold OpOk
                            go_simp
                            rw [HR.out]
                            exact ⟨hr, rfl⟩
                          refine steps_cons (Gs.refl) (fun ev xw hb hc hf hfr hd hr => ?_) ?_
                          · have e155 : ev (.tmp 155) = .pointer (some ⟨g, 0, none⟩) := hd 1 155 (by kernel_rfl)
                            clear hfr hd
                            show OpOk _ _ ev xw fun v w' => (Gs g) xw w' ∧ (∃ x : Int, v = .int .i64 x)
                            refine opOk_hid (fun Rp HR => ?_)
                            unfold OpOk
                            go_simp
                            refine (next_s g 3 xw (hb.gr.2 hdk) (by omega) (by omega)).mono ?_
                            rintro e w'' ⟨hw, _, x, x0, x1, rfl⟩
                            refine ⟨_, rfl, ?_⟩
                            rw [HR.out]
                            exact ⟨hw, x, rfl⟩
                          refine steps_cons (Gs.refl) (fun ev xw hb hc hf hfr hd hr => ?_) ?_
                          · obtain ⟨x156, e156⟩ : ∃ x : Int, ev (.tmp 156) = .int .i64 x := hd 2 156 (by kernel_rfl)
                            clear hfr hd
                            show OpOk _ _ ev xw fun v w' => (Gs g) xw w' ∧ (∃ x : Bool, v = .bool x)
                            refine opOk_hid (fun Rp HR => ?_)
                            unfold OpOk
                            go_simp
                            rw [HR.out]
                            exact ⟨hr, _, rfl⟩
                          refine steps_cons (Gs.refl) (fun ev xw hb hc hf hfr hd hr => ?_) ?_
                          · have e154 : ev (.tmp 154) = .agg #[.int .i64 P, .int .i64 G, .slice A9 n c9] := hd 0 154 (by kernel_rfl)
                            obtain ⟨x157, e157⟩ : ∃ x : Bool, ev (.tmp 157) = .bool x := hd 3 157 (by kernel_rfl)
                            clear hfr hd
                            show OpOk _ _ ev xw fun v w' => (Gs g) xw w' ∧ (∃ (A : Option Addr) (c : Nat) (y : Int), v = .agg #[.int .i64 P, .int .i64 y, .slice A n c] ∧ 0 ≤ y ∧ y ≤ 60 ∧ (P = -1 → y = 0) ∧ Ints .i64 w' (w').heap.size A E9 ∧ (∀ a, A = some a → W.heap.size ≤ a.block))
                            refine opOk_hid (fun Rp HR => ?_)
                            unfold OpOk
                            go_simp
                            have hIx := hI9.gr hb.gr hfar9
                            have hszx := hb.size
                            refine (count_any P G A9 n c9 E9 x157 xw hE9 hIx (by omega) (by omega) hG).mono ?_
                            intro e w'' hS
                            obtain ⟨A, c, rfl, hw, ho⟩ := hS
                            refine ⟨_, rfl, ?_⟩
                            rw [HR.out]
                            refine ⟨Gs.of_below hw, A, c, _, rfl, (grC_bd x157 P hG).1, (grC_bd x157 P hG).2, (fun h => by unfold grC; rw [if_neg (fun h2 => h2.2 h)]; exact HZ.out h), ho.intsN.1, fun a ha => ?_⟩
                            subst ha
                            have := (ho.lt rfl).1
                            show W.heap.size ≤ a.block
                            omega
                          exact steps_nil
                        · intro vs W5 hb5 hk
                          obtain ⟨A7, c7, y7, k7, l7, h7, m7, I7, z7⟩ : ∃ (A : Option Addr) (c : Nat) (y : Int), vs 4 = .agg #[.int .i64 P, .int .i64 y, .slice A n c] ∧ 0 ≤ y ∧ y ≤ 60 ∧ (P = -1 → y = 0) ∧ Ints .i64 W5 W5.heap.size A E9 ∧ (∀ a, A = some a → W.heap.size ≤ a.block) := hk 4 (by omega)
                          clear hk
                          simp only [List.take_succ_cons, List.take_zero, List.drop_succ_cons, List.drop_zero, putAll, Act.put, List.setIfInBounds_toArray, List.set_cons_zero, List.set_cons_succ, k7, Nat.reduceAdd, Nat.reduceSub]
                          clear k7
                          have C6 := hb5.blk B6 hne6
                          have CC := hb5.blk BC hneC
                          have hszW := hb5.size
                          have hD5 := hb5.2 r3 hdr
                          have bz5 := hb5.base bz hgw
                          refine wpList_store3 rfl rfl rfl rfl rfl C6 ⟨rfl, rfl, rfl⟩ ⟨_, _, rfl⟩ ⟨_, _, rfl⟩ ⟨_, _, _, rfl⟩ ?_
                          intro wN N6 gN
                          have NC := CC.grown gN (by intro e; injection e with e; omega)
                          have NI : Ints .i64 wN wN.heap.size A7 E9 := fun h0 => by
                            obtain ⟨bb, off, hA, hb, hc⟩ := I7 h0
                            have hzz := z7 _ hA
                            refine ⟨bb, off, hA, Nat.lt_of_lt_of_le hb gN.size, fun i hi => ?_⟩
                            rw [← hc i hi]
                            exact World.cell?_of_block (gN.block bb hb (fun e => by injection e with e; have : W.heap.size ≤ bb := hzz; omega))
                          have NB := bz5.grown gN bz5.size (fun k e => by injection e with e; omega)
                          obtain ⟨r5, hr5, hd5⟩ := hD5
                          have ND := hd5.other gN (by intro e; injection e with e; omega) (fun k e hk => by injection e with e; omega)
                          go_wp2
                          go_roundw
                          case rel => exact ⟨N + 1, P, y7, A7, c7, E9, r5, by omega, by simp, HP.out, ⟨l7, h7⟩, m7, hE9, (fun x hx => by have := hE9u x hx; omega), NC, N6, NI, (fun a ha => by have := z7 a ha; omega), NB, ND, by omega⟩
                          case measure =>
                            have e1 := ND.rest
                            have e2 := hdr0.rest
                            show restW _ _ < restW _ _
                            omega
                  · have z3 : (G == 0) = false := by simpa using hG0
                    clear f1 f2 f3 f4 hPP hGh
                    as_aux_lemma =>
                      have o0 := B9q.at 0 rfl
                      have o1 := B9q.at 1 rfl
                      have o2 := B9q.at 2 rfl
                      have s0 := BCq.at 0 rfl
                      have s1 := BCq.at 1 rfl
                      have s2 := BCq.at 2 rfl
                      have s3 := BCq.at 3 rfl
                      have s4 := BCq.at 4 rfl
                      have s5 := BCq.at 5 rfl
                      go_wp2_with fail
                      clear o0 o1 o2 s0 s1 s2 s3 s4 s5
                      have o0 := B9q.laterN 0 rfl
                      have o1 := B9q.laterN 1 rfl
                      have o2 := B9q.laterN 2 rfl
                      have p0 := B6q.laterN 0 rfl
                      have p1 := B6q.laterN 1 rfl
                      have p2 := B6q.laterN 2 rfl
                      have s0 := BCq.laterN 0 rfl
                      have s1 := BCq.laterN 1 rfl
                      have s2 := BCq.laterN 2 rfl
                      have s3 := BCq.laterN 3 rfl
                      have s4 := BCq.laterN 4 rfl
                      have s5 := BCq.laterN 5 rfl
                      refine wp_region_grow (by kernel_rfl) (by kernel_rfl) ?_
                      repeat' (first
                          | go_big_quiet_skip
                          | (go_big_quiet_want; first
                              | (go_big_quiet_op; go_big_quiet_on)
                              | (refine quiet_det ?_; apply Exists.intro; refine ⟨fun w' hC => ?_, ?_⟩; (go_simp <;> (first | rfl | exact ⟨rfl, rfl⟩)); apply Exists.intro; refine ⟨?_, ?_⟩; (go_simp <;> (first | rfl | exact ⟨rfl, rfl⟩)); go_big_quiet_on)
                              | (show Oper.quiet _ { dst := _, op := .call { callee := .value _, args := _, argTypes := _ }, type := _, pos := _, after := _, guard := _ } _ _ _; refine quiet_call ?_; apply Exists.intro; apply Exists.intro; refine ⟨fun w' hC => ?_, ?_⟩; (go_simp <;> (first | rfl | exact ⟨rfl, rfl⟩)); apply Exists.intro; refine ⟨fun w' hC => ?_, ?_⟩; (first

                                  | fail); apply Exists.intro; refine ⟨?_, ?_⟩; (go_simp <;> (first | rfl | exact ⟨rfl, rfl⟩)); go_big_quiet_on)))
                      all_goals refine wpQuiet_nil ?_
                      intro w3 hw3
                      clear o0 o1 o2 p0 p1 p2 s0 s1 s2 s3 s4 s5
                      (try clear z6); (try clear z5); (try clear z4); (try clear z3); (try clear z2); (try clear z1); (try clear hww); (try clear hx6)
                      have hneC : gc ≠ g := by omega
                      have hne6 : g6 ≠ g := by omega
                      have B9 := B9q.below hw3
                      have B6 := B6q.below hw3
                      have BC := BCq.below hw3
                      have hI9 := I9q.grow hw3
                      have hdr := hdq.below hw3
                      have hdk := hdr.ok
                      have bz := bzq.trans (hw3.mono bzq.size)
                      have hne9 := hneB9
                      have hlt9 := B9.lt
                      have hE9 := HE9.out
                      obtain ⟨r3, hr3⟩ : ∃ r3, r3 = r1 - 1 := ⟨_, rfl⟩
                      have hr3' : r3 ≤ r1 - 1 := by omega
                      rw [← hr3] at hdr
                      clear hr3 HGG
                      go_wp2_with fail
                      generalize hgW : w3 = W at *
                      clear hgW
                      refine wp_region_pre (R := (Gs g)) 5 160 [fun v _ => v = .agg #[.int .i64 P, .int .i64 G, .slice A9 n c9], fun v _ => v = .pointer (some ⟨g, 0, none⟩), fun v w => ∃ x : Int, v = .int .i64 x, fun v w => ∃ x : Bool, v = .bool x, fun v w => ∃ (A : Option Addr) (c : Nat) (y : Int), v = .agg #[.int .i64 P, .int .i64 y, .slice A n c] ∧ 0 ≤ y ∧ y ≤ 60 ∧ (P = -1 → y = 0) ∧ Ints .i64 w (w).heap.size A E9 ∧ (∀ a, A = some a → W.heap.size ≤ a.block)] (Gs.trans) (Gs.drew) (by kernel_rfl) (fun _ _ d _ _ h => by cases d <;> exact h) rfl (by kernel_rfl) (stay_cons (stays_v _) (stay_cons (stays_v _) (stay_cons (fun v _ _ h _ => h) (stay_cons (fun v _ _ h _ => h) (stay_cons (fun v w w1 h hb => by obtain ⟨A, c, y, h1, h2, h3, h6, h4, h5⟩ := h; exact ⟨A, c, y, h1, h2, h3, h6, h4.gr hb.gr (fun a ha => by have := h5 a ha; omega), h5⟩) (stay_nil)))))) ?_ ?_
                      · simp only [List.take_succ_cons, List.take_zero]
                        refine steps_cons (Gs.refl) (fun ev xw hb hc hf hfr hd hr => ?_) ?_
                        · have e9 : ev (.tmp 9) = .pointer (some ⟨g9, 0, none⟩) := hfr 9 (by kernel_rfl)
                          clear hfr hd
                          have q0 := (hb.blk B9 hne9).at 0 rfl
                          have q1 := (hb.blk B9 hne9).at 1 rfl
                          have q2 := (hb.blk B9 hne9).at 2 rfl
                          show OpOk _ _ ev xw fun v w' => (Gs g) xw w' ∧ (v = .agg #[.int .i64 P, .int .i64 G, .slice A9 n c9])
                          refine opOk_hid (fun Rp HR => ?_)
                          unfold OpOk
                          go_simp
                          rw [HR.out]
                          exact ⟨hr, rfl⟩
                        refine steps_cons (Gs.refl) (fun ev xw hb hc hf hfr hd hr => ?_) ?_
                        · have e3 : ev (.tmp 3) = .pointer (some ⟨g, 0, none⟩) := hfr 3 (by kernel_rfl)
                          clear hfr hd
                          show OpOk _ _ ev xw fun v w' => (Gs g) xw w' ∧ (v = .pointer (some ⟨g, 0, none⟩))
                          refine opOk_hid (fun Rp HR => ?_)
                          unfold OpOk
                          go_simp
                          rw [HR.out]
                          exact ⟨hr, rfl⟩
                        refine steps_cons (Gs.refl) (fun ev xw hb hc hf hfr hd hr => ?_) ?_
                        · have e155 : ev (.tmp 155) = .pointer (some ⟨g, 0, none⟩) := hd 1 155 (by kernel_rfl)
                          clear hfr hd
                          show OpOk _ _ ev xw fun v w' => (Gs g) xw w' ∧ (∃ x : Int, v = .int .i64 x)
                          refine opOk_hid (fun Rp HR => ?_)
                          unfold OpOk
                          go_simp
                          refine (next_s g 3 xw (hb.gr.2 hdk) (by omega) (by omega)).mono ?_
                          rintro e w'' ⟨hw, _, x, x0, x1, rfl⟩
                          refine ⟨_, rfl, ?_⟩
                          rw [HR.out]
                          exact ⟨hw, x, rfl⟩
                        refine steps_cons (Gs.refl) (fun ev xw hb hc hf hfr hd hr => ?_) ?_
                        · obtain ⟨x156, e156⟩ : ∃ x : Int, ev (.tmp 156) = .int .i64 x := hd 2 156 (by kernel_rfl)
                          clear hfr hd
                          show OpOk _ _ ev xw fun v w' => (Gs g) xw w' ∧ (∃ x : Bool, v = .bool x)
                          refine opOk_hid (fun Rp HR => ?_)
                          unfold OpOk
                          go_simp
                          rw [HR.out]
                          exact ⟨hr, _, rfl⟩
                        refine steps_cons (Gs.refl) (fun ev xw hb hc hf hfr hd hr => ?_) ?_
                        · have e154 : ev (.tmp 154) = .agg #[.int .i64 P, .int .i64 G, .slice A9 n c9] := hd 0 154 (by kernel_rfl)
                          obtain ⟨x157, e157⟩ : ∃ x : Bool, ev (.tmp 157) = .bool x := hd 3 157 (by kernel_rfl)
                          clear hfr hd
                          show OpOk _ _ ev xw fun v w' => (Gs g) xw w' ∧ (∃ (A : Option Addr) (c : Nat) (y : Int), v = .agg #[.int .i64 P, .int .i64 y, .slice A n c] ∧ 0 ≤ y ∧ y ≤ 60 ∧ (P = -1 → y = 0) ∧ Ints .i64 w' (w').heap.size A E9 ∧ (∀ a, A = some a → W.heap.size ≤ a.block))
                          refine opOk_hid (fun Rp HR => ?_)
                          unfold OpOk
                          go_simp
                          have hIx := hI9.gr hb.gr hfar9
                          have hszx := hb.size
                          refine (count_any P G A9 n c9 E9 x157 xw hE9 hIx (by omega) (by omega) hG).mono ?_
                          intro e w'' hS
                          obtain ⟨A, c, rfl, hw, ho⟩ := hS
                          refine ⟨_, rfl, ?_⟩
                          rw [HR.out]
                          refine ⟨Gs.of_below hw, A, c, _, rfl, (grC_bd x157 P hG).1, (grC_bd x157 P hG).2, (fun h => by unfold grC; rw [if_neg (fun h2 => h2.2 h)]; exact HZ.out h), ho.intsN.1, fun a ha => ?_⟩
                          subst ha
                          have := (ho.lt rfl).1
                          show W.heap.size ≤ a.block
                          omega
                        exact steps_nil
                      · intro vs W5 hb5 hk
                        obtain ⟨A7, c7, y7, k7, l7, h7, m7, I7, z7⟩ : ∃ (A : Option Addr) (c : Nat) (y : Int), vs 4 = .agg #[.int .i64 P, .int .i64 y, .slice A n c] ∧ 0 ≤ y ∧ y ≤ 60 ∧ (P = -1 → y = 0) ∧ Ints .i64 W5 W5.heap.size A E9 ∧ (∀ a, A = some a → W.heap.size ≤ a.block) := hk 4 (by omega)
                        clear hk
                        simp only [List.take_succ_cons, List.take_zero, List.drop_succ_cons, List.drop_zero, putAll, Act.put, List.setIfInBounds_toArray, List.set_cons_zero, List.set_cons_succ, k7, Nat.reduceAdd, Nat.reduceSub]
                        clear k7
                        have C6 := hb5.blk B6 hne6
                        have CC := hb5.blk BC hneC
                        have hszW := hb5.size
                        have hD5 := hb5.2 r3 hdr
                        have bz5 := hb5.base bz hgw
                        refine wpList_store3 rfl rfl rfl rfl rfl C6 ⟨rfl, rfl, rfl⟩ ⟨_, _, rfl⟩ ⟨_, _, rfl⟩ ⟨_, _, _, rfl⟩ ?_
                        intro wN N6 gN
                        have NC := CC.grown gN (by intro e; injection e with e; omega)
                        have NI : Ints .i64 wN wN.heap.size A7 E9 := fun h0 => by
                          obtain ⟨bb, off, hA, hb, hc⟩ := I7 h0
                          have hzz := z7 _ hA
                          refine ⟨bb, off, hA, Nat.lt_of_lt_of_le hb gN.size, fun i hi => ?_⟩
                          rw [← hc i hi]
                          exact World.cell?_of_block (gN.block bb hb (fun e => by injection e with e; have : W.heap.size ≤ bb := hzz; omega))
                        have NB := bz5.grown gN bz5.size (fun k e => by injection e with e; omega)
                        obtain ⟨r5, hr5, hd5⟩ := hD5
                        have ND := hd5.other gN (by intro e; injection e with e; omega) (fun k e hk => by injection e with e; omega)
                        go_wp2
                        go_roundw
                        case rel => exact ⟨N + 1, P, y7, A7, c7, E9, r5, by omega, by simp, HP.out, ⟨l7, h7⟩, m7, hE9, (fun x hx => by have := hE9u x hx; omega), NC, N6, NI, (fun a ha => by have := z7 a ha; omega), NB, ND, by omega⟩
                        case measure =>
                          have e1 := ND.rest
                          have e2 := hdr0.rest
                          show restW _ _ < restW _ _
                          omega
      · have zr : decide (0 < r) = false := by simpa using hr1
        rw [zr]
        clear zr
        go_wp2_with fail
        refine (awake_any wa).mono ?_
        rintro e w4 ⟨rfl, hw4⟩
        have hBz := bz0.trans (hba.mono bz0.size)
        go_wp2
        go_ret
        exact ⟨rfl, hBz.trans (hw4.mono hBz.size)⟩
  · have HF : Hid (decide (l.length ≤ 300) = false) := Lib.hid (by simpa using hfew)
    go_enter Try.func4, Try.ntmps4
    go_wp2_with fail
    refine (few_any _ _ _ _).mono ?_; rintro e w' ⟨rfl, hw'⟩; subst hw'; rw [HF.out]
    go_wp2_with fail
    refine (awake_any w).mono ?_
    rintro e w4 ⟨rfl, hw4⟩
    go_wp2
    go_ret
    exact ⟨rfl, hw4⟩
end Go.Proofs.Ytikffoepndpfjaa

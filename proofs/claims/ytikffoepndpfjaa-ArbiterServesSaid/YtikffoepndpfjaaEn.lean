/-
  The law ArbiterEnds answers true: its walk. Conditions: none.
-/
import Derived.Test.YtikffoepndpfjaaAw
import Derived.Test.YtikffoepndpfjaaCs
namespace Go.Proofs.Ytikffoepndpfjaa
open Go.ChangeShapes Go.WideShapes Go.RowKit
set_option linter.unusedVariables false

theorem Cls.gr {g : Nat} {w w' : World} {A : Option Addr} {C : List Cl} (h : Cls w w.heap.size A C) (hg : Gr g w w') (hne : ∀ a, A = some a → a.block ≠ g) : Cls w' w'.heap.size A C := fun h0 => by
  obtain ⟨b, off, rfl, hB, hc⟩ := h h0
  have hb := hne _ rfl
  exact ⟨b, off, rfl, Nat.lt_of_lt_of_le hB hg.size, fun i hi => ⟨(hg.cell hB hb).trans (hc i hi).1, (hg.cell hB hb).trans (hc i hi).2.1, (hg.cell hB hb).trans (hc i hi).2.2.1, (hg.cell hB hb).trans (hc i hi).2.2.2.1, (hg.cell hB hb).trans (hc i hi).2.2.2.2⟩⟩
theorem grC_bd (b : Bool) (ph : Int) {gr : Int} (h : 0 ≤ gr ∧ gr ≤ 60) : 0 ≤ grC b ph gr ∧ grC b ph gr ≤ 60 := by
  unfold grC
  split <;> omega
theorem DeckR.other {w w' : World} {g r : Nat} {row : Option Nat} (h : DeckR w g r) (hg : w.grownBy w' row) (h1 : row ≠ some g) (h2 : ∀ k, row = some k → k < g → False) : DeckR w' g r := by
  obtain ⟨A, l, c, x, h3, h4, h5, h6, h7, h8⟩ := h
  have hlt := Blk.lt h3
  refine ⟨A, l, c, x, Blk.grown h3 hg h1, fun h0 => ?_, h5, h6, h7, h8⟩
  obtain ⟨bb, off, hA, hB, hc⟩ := h4 h0
  refine ⟨bb, off, hA, hB, fun i hi => ?_⟩
  rw [← hc i hi]
  exact World.cell?_of_block (hg.block bb (by omega) (fun e => h2 bb e.symm hB))
/-- What a decision leaves of the ends, and whom it serves. -/
theorem dec_facts {per cap hold lock ph gr : Int} {E : List Int} {C : List Cl} {now : Int} {n : Nat} (hn : E.length = n) (hph : -1 ≤ ph ∧ ph < n) (hC : ∀ x ∈ C, 0 ≤ x.ph ∧ x.ph < n) (hgr : 0 ≤ gr ∧ gr ≤ 60) :
    (-1 ≤ (decT per cap hold lock ph gr E C now).1 ∧ (decT per cap hold lock ph gr E C now).1 < n) ∧ (0 ≤ (decT per cap hold lock ph gr E C now).2.1 ∧ (decT per cap hold lock ph gr E C now).2.1 ≤ 60) ∧
      (decT per cap hold lock ph gr E C now).2.2 = if ph ≠ -1 ∧ overB hold ph gr C = true then endE ph gr E now else E := by
  have hm : (-1 ≤ (midT hold ph gr E C now).1 ∧ (midT hold ph gr E C now).1 < n) ∧ (0 ≤ (midT hold ph gr E C now).2.1 ∧ (midT hold ph gr E C now).2.1 ≤ 60) ∧ (midT hold ph gr E C now).2.2 = if ph ≠ -1 ∧ overB hold ph gr C = true then endE ph gr E now else E := by
    unfold midT
    split
    · exact ⟨⟨by simp, by simp; omega⟩, ⟨by simp, by simp⟩, rfl⟩
    · exact ⟨hph, hgr, rfl⟩
  unfold decT
  split
  · exact hm
  · split
    · rename_i hb
      have hbd := bestK_bd per cap lock (midT hold ph gr E C now).2.2 now C C.length
      have := hC _ (clAt_mem (C := C) (i := (bestK per cap lock (midT hold ph gr E C now).2.2 now C C.length).toNat) (by omega))
      exact ⟨⟨by show -1 ≤ (clAt C _).ph; omega, this.2⟩, ⟨by simp, by simp⟩, hm.2.2⟩
    · exact hm
theorem endE_len (ph gr : Int) (E : List Int) (now : Int) : (endE ph gr E now).length = E.length := by
  unfold endE; split <;> simp
theorem endE_at (ph gr : Int) (E : List Int) (now : Int) {k : Nat} (hk : k < E.length) : at_ (endE ph gr E now) k = if 0 < gr ∧ (k : Int) = ph then now else at_ E k := by
  unfold endE at_
  split
  · rename_i h
    by_cases e : (k : Int) = ph
    · rw [if_pos ⟨h.1, e⟩, show ph.toNat = k by omega]
      simp [hk]
    · rw [if_neg (by omega)]
      have : ph.toNat ≠ k := by omega
      simp [List.getElem?_set_ne this]
  · rename_i h
    rw [if_neg (by omega)]
set_option maxRecDepth 20000 in
set_option maxHeartbeats 4000000 in
theorem endslaw_any (D : Option Addr) (d : Nat) (l : List Int) (w : World) (hs : Ints .i64 w w.heap.size D l) (hn0 : Nums l) (hl : l.length ≤ 9223372036854775807) :
    Calls Try.prog 5 #[.slice D l.length d] w fun e w' => e = .returned (.bool true) ∧ Below w.heap.size w w' := by
  by_cases hfew : l.length ≤ 300
  · have HF : Hid (decide (l.length ≤ 300) = true) := Lib.hid (by simpa using hfew)
    go_enter Try.func5, Try.ntmps5
    go_wp2_with fail
    refine (few_any _ _ _ _).mono ?_; rintro e w' ⟨rfl, hw'⟩; subst hw'; rw [HF.out]
    go_wp2_with fail
    refine (new_deck D l d w).mono ?_
    rintro e w1 ⟨rfl, hdk, hb1, hlt1⟩
    have hd1 : DeckR w1 w.heap.size l.length := ⟨D, l, d, 0, hdk, hs.below hb1, hn0, hl, by omega, by omega⟩
    obtain ⟨g, hgg⟩ : ∃ g, w.heap.size = g := ⟨_, rfl⟩
    have hgw : w.heap.size ≤ g := by omega
    have hgw' : g ≤ w.heap.size := by omega
    rw [hgg] at hd1 hlt1 ⊢
    have HGG := Lib.hid hgg
    clear hdk hgg
    have hb1 : Below w.heap.size w w1 := hb1
    go_wp2_with fail
    refine (next_t g l.length 4 w1 hd1 (by omega) (by omega)).mono ?_
    rintro e w2 ⟨hG2, hd2, cap, p0, p1, rfl⟩
    go_wp2_with fail
    refine (range_s g 1 4 w2 hd2.ok (by omega) (by omega) (by omega)).mono ?_
    rintro e w3 ⟨hG3, hd3, hold, q0, q1, rfl⟩
    go_wp2_with fail
    refine (next_s g 5 w3 hd3 (by omega) (by omega)).mono ?_
    rintro e w4 ⟨hG4, hd4, lock, s0, s1, rfl⟩
    have hG14 := (hG2.trans hG3).trans hG4
    go_wp2_with fail
    have bA := lat_alloc (Below.refl w4.heap.size w4) (.cells #[.slice none 0 0, .slice none 0 0, .int .i64 2, .int .i64 cap, .int .i64 hold, .int .i64 lock] 33)
    have BC4 := Blk.new (w := w4) (t := 33) (cs := #[.slice none 0 0, .slice none 0 0, .int .i64 2, .int .i64 cap, .int .i64 hold, .int .i64 lock])
    have hG15 := hG14.trans (Gs.of_below bA)
    have hd5 := hd4.below bA
    have hgl4 := hd4.lt
    have hcA := BC4.lt
    generalize w4.alloc (.cells #[.slice none 0 0, .slice none 0 0, .int .i64 2, .int .i64 cap, .int .i64 hold, .int .i64 lock] 33) = w5 at *
    generalize w4.heap.size = gc at *
    refine (range_s g 1 6 w5 hd5 (by omega) (by omega) (by omega)).mono ?_
    rintro e w6 ⟨hG6, hd6, nn, n0, n1, rfl⟩
    obtain ⟨n, rfl⟩ := Int.eq_ofNat_of_zero_le (show 0 ≤ nn by omega)
    have BC6 := hG6.blk BC4 (show gc ≠ g by omega)
    have hG16 := hG15.trans hG6
    go_wp2_with fail
    refine (new_any n w6 (by omega)).mono ?_
    rintro e w7 ⟨A7, c7, rfl, hb7, own7⟩
    have hsz6 := hG6.size
    have hsz7 := hb7.size
    have BC7 := BC6.below hb7
    have hG17 := hG16.trans (Gs.of_below hb7)
    have bB := lat_alloc (Below.refl w7.heap.size w7) (.cells #[.int .i64 (-1), .int .i64 0, .slice A7 n c7] 24)
    have BS8 := Blk.new (w := w7) (t := 24) (cs := #[.int .i64 (-1), .int .i64 0, .slice A7 n c7])
    have BC8 := BC7.below bB
    have hG18 := hG17.trans (Gs.of_below bB)
    have hI8 := own7.intsN.1.grow bB
    have hfar8 : ∀ a, A7 = some a → a.block ≠ g ∧ a.block ≠ w7.heap.size := fun a ha => by
      subst ha
      have := own7.lt rfl
      omega
    go_wp2_with fail
    generalize w7.alloc (.cells #[.int .i64 (-1), .int .i64 0, .slice A7 n c7] 24) = W0 at *
    have hg6 : gc < w7.heap.size := BC7.lt
    have hg60 : g < w7.heap.size := by omega
    generalize w7.heap.size = g6 at *
    have hB18 := hG18.base hb1 hgw
    obtain ⟨r0, hr0, hdr00⟩ := hG18.2 _ hd1
    have hlen8 : (List.replicate n (-1 : Int)).length = n := List.length_replicate
    clear hG2 hG3 hG4 hG14 hG15 hG16 hG17 hG18 hd2 hd3 hd4 hd5 hd6 BC4 BC6 BC7 bA bB hb7 own7 hG6 hb1
    go_loopw [7] (fun v wr => ∃ (N : Nat) (ph gr : Int) (A : Option Addr) (c : Nat) (E : List Int) (r : Nat), 1 ≤ N ∧ v = .int .i64 N ∧ (-1 ≤ ph ∧ ph < n) ∧ (0 ≤ gr ∧ gr ≤ 60) ∧ E.length = n ∧ (∀ x ∈ E, -1 ≤ x ∧ x < N) ∧ Blk wr gc 33 #[.slice none 0 0, .slice none 0 0, .int .i64 2, .int .i64 cap, .int .i64 hold, .int .i64 lock] ∧ Blk wr g6 24 #[.int .i64 ph, .int .i64 gr, .slice A n c] ∧ Ints .i64 wr wr.heap.size A E ∧ (∀ a, A = some a → a.block ≠ g ∧ a.block ≠ g6) ∧ Below w.heap.size w wr ∧ DeckR wr g r ∧ N + r ≤ 301) (fun _ wr => restW wr g)
    case atStart => exact ⟨1, -1, 0, A7, c7, List.replicate n (-1), r0, by omega, rfl, by omega, by omega, hlen8, (fun x hx => by rw [List.mem_replicate] at hx; omega), BC8, BS8, hI8, hfar8, hB18, hdr00, by omega⟩
    case round =>
      obtain ⟨N, ph, gr, A, c, E, r, hN, rfl, hph, hgr, hE, hEu, BCr, B6r, hIr, hfar, bz0, hdr0, hNr⟩ := hrel
      go_wp2_with fail
      refine (left_r g r _ hdr0).mono ?_
      rintro e wa ⟨rfl, hba⟩
      by_cases hr1 : 0 < r
      · have zr : decide (0 < r) = true := by simpa using hr1
        rw [zr]
        clear zr
        go_wp2_with fail
        refine (claims_s g r n N wa (hdr0.below hba) (by omega) (by omega)).mono ?_
        rintro e wb ⟨hGb, ⟨r1, hr1', hdb⟩, DC, dc, C, rfl, hC5, hCin, hCls, hCf⟩
        go_wp2_with fail
        refine (next_t g r1 2 wb hdb (by omega) (by omega)).mono ?_
        rintro e wc ⟨hGc, hdc, xx, x0, x1, rfl⟩
        have hszr := hba.size
        have hG := ((Gs.of_below hba).trans hGb).trans hGc
        have hga := (hdr0.below hba).lt
        have hgcl := BCr.lt
        have hg6l := B6r.lt
        have BCc := hG.blk BCr (show gc ≠ g by omega)
        have B6c := hG.blk B6r (show g6 ≠ g by omega)
        have hIc := hIr.gr hG.gr (fun a ha => (hfar a ha).1)
        have hClc := hCls.gr hGc.gr (fun a ha => by have := hCf a ha; omega)
        have bzc := hG.base bz0 hgw
        have hok : AllOk C := fun x hx => by have h := hCin x hx; have := h.ph; have := h.cl; have := h.si; exact ⟨by omega, by omega, by omega⟩
        have hSE : Small E := fun x hx => by have := hEu x hx; omega
        obtain ⟨hP, hG0, hE9e⟩ := dec_facts (per := 2) (cap := cap) (hold := hold) (lock := lock) (now := N) hE hph (fun x hx => by have := (hCin x hx).ph; omega) hgr (C := C)
        have hdec := decide_any 2 cap hold lock ph gr A n c E DC dc C N wc hE hIc (by omega) (by omega) hSE (by omega) (by omega) (by omega) (by omega) hClc hok (by omega)
        generalize hdt : decT 2 cap hold lock ph gr E C (N : Int) = dt at hP hG0 hE9e hdec
        obtain ⟨P, G, E9⟩ := dt
        clear hdt
        have hP : -1 ≤ P ∧ P < n := hP
        have hG9 : 0 ≤ G ∧ G ≤ 60 := hG0
        have hE9e : E9 = if ph ≠ -1 ∧ overB hold ph gr C = true then endE ph gr E N else E := hE9e
        have hE9 : E9.length = n := by rw [hE9e]; split <;> simp [endE_len, hE]
        have hE9u : ∀ x ∈ E9, -1 ≤ x ∧ x ≤ N := fun x hx => by
          rw [hE9e] at hx
          split at hx
          · unfold endE at hx
            split at hx
            · rcases List.mem_or_eq_of_mem_set hx with h1 | rfl
              · have := hEu x h1; omega
              · omega
            · have := hEu x hx; omega
          · have := hEu x hx; omega
        have hchg : ∀ k : Nat, k < n → (at_ E9 k ≠ at_ E k → (k : Int) = ph ∧ 0 < gr ∧ at_ E9 k = N) ∧ ((k : Int) = ph → hold ≤ gr → at_ E9 k ≠ at_ E k) := fun k hk => by
          have hek := hEu _ (at_mem (l := E) (i := k) (by omega))
          have hat := endE_at ph gr E N (k := k) (by omega)
          constructor
          · intro h
            rw [hE9e] at h ⊢
            split at h
            · rename_i hc
              rw [if_pos hc]
              rw [hat] at h ⊢
              split at h
              · rename_i h2
                rw [if_pos h2]
                exact ⟨h2.2, h2.1, rfl⟩
              · exact absurd rfl h
            · exact absurd rfl h
          · intro h1 h2
            rw [hE9e, if_pos ⟨by omega, by unfold overB; simp [h2]⟩, hat, if_pos ⟨by omega, h1⟩]
            omega
        have HP := Lib.hid hP
        have HCH := Lib.hid hchg
        have hG := hG9
        clear hE9e hchg hG0 hP hG9
        have o0 := BCc.at 0 rfl
        have o1 := BCc.at 1 rfl
        have o2 := BCc.at 2 rfl
        have o3 := BCc.at 3 rfl
        have o4 := BCc.at 4 rfl
        have o5 := BCc.at 5 rfl
        have p0 := B6c.at 0 rfl
        have p1 := B6c.at 1 rfl
        have p2 := B6c.at 2 rfl
        go_wp2_with fail
        clear o0 o1 o2 o3 o4 o5 p0 p1 p2
        refine hdec.mono ?_
        rintro e wd ⟨A9, c9, rfl, hbd, own9⟩
        clear hdec
        have bD := lat_alloc (Below.refl wd.heap.size wd) (.cells #[.int .i64 P, .int .i64 G, .slice A9 n c9] 24)
        have B9 := Blk.new (w := wd) (t := 24) (cs := #[.int .i64 P, .int .i64 G, .slice A9 n c9])
        have BCd := (BCc.below hbd).below bD
        have B6d := (B6c.below hbd).below bD
        have hId := (hIc.grow hbd).grow bD
        have hI9 := (own9.intsN.1).grow bD
        have hdrd := (hdc.below hbd).below bD
        have hszc := hGc.size
        have hszb := hGb.size
        have hszd := hbd.size
        have hgc9 := hdc.lt
        have bzd := bzc.trans ((hbd.trans (bD.mono hbd.size)).mono bzc.size)
        have hfar9 : ∀ a, A9 = some a → a.block ≠ g := fun a ha => by
          subst ha
          have := own9.lt rfl
          omega
        have hneB9 : wd.heap.size ≠ g := by omega
        have o0 := BCd.at 0 rfl
        have o1 := BCd.at 1 rfl
        have o2 := BCd.at 2 rfl
        have o3 := BCd.at 3 rfl
        have o4 := BCd.at 4 rfl
        have o5 := BCd.at 5 rfl
        have p0 := B6d.at 0 rfl
        have p1 := B6d.at 1 rfl
        have p2 := B6d.at 2 rfl
        have HE9 := Lib.hid hE9
        have HE := Lib.hid hE
        clear hE9 hE
        go_wp2_with fail
        clear o0 o1 o2 o3 o4 o5 p0 p1 p2
        generalize wd.alloc (.cells #[.int .i64 P, .int .i64 G, .slice A9 n c9] 24) = we at *
        generalize wd.heap.size = g9 at *
        go_loopw [57] (fun i wr => ∃ k : Nat, k ≤ n ∧ i = .int .i64 k ∧ Below we.heap.size we wr) (fun i _ => n - (intOf i).toNat)
        case atStart => exact ⟨0, by omega, rfl, Below.refl _ _⟩
        case round =>
          obtain ⟨k, hk, rfl, hbq⟩ := hrel
          have Bq9 := B9.below hbq
          have Bq6 := B6d.below hbq
          have BqC := BCd.below hbq
          have Iq9 := hI9.grow hbq
          have Iq6 := hId.grow hbq
          by_cases hlt : k < n
          · have hlt' : (k : Int) < n := by omega
            obtain ⟨b9, o9, hA9, hb9, hc9⟩ := Iq9.sub (i := k) (by rw [HE9.out]; exact hlt)
            obtain ⟨b6, o6, hA6, hb6, hc6⟩ := Iq6.sub (i := k) (by rw [HE.out]; exact hlt)
            have hch := HCH.out k hlt
            subst hA9 hA6
            have c9l : ∀ w', Below wr.heap.size wr w' → w'.cell? ⟨b9, o9 + k, none⟩ = some (.int .i64 (at_ E9 k)) := fun w' hb => (hb.cell (p := ⟨b9, o9 + k, none⟩) hb9).trans hc9
            have c6l : ∀ w', Below wr.heap.size wr w' → w'.cell? ⟨b6, o6 + k, none⟩ = some (.int .i64 (at_ E k)) := fun w' hb => (hb.cell (p := ⟨b6, o6 + k, none⟩) hb6).trans hc6
            generalize at_ E9 k = x9 at *
            generalize at_ E k = x6 at *
            go_wp2_with fail
            have o0 := Bq9.laterN 0 rfl
            have o1 := Bq9.laterN 1 rfl
            have o2 := Bq9.laterN 2 rfl
            have p0 := Bq6.laterN 0 rfl
            have p1 := Bq6.laterN 1 rfl
            have p2 := Bq6.laterN 2 rfl
            refine wp_region_grow (by kernel_rfl) (by kernel_rfl) ?_
            repeat' (first
                | go_big_quiet_skip
                | (go_big_quiet_want; first
                    | (go_big_quiet_op; go_big_quiet_on)
                    | (refine quiet_det ?_; apply Exists.intro; refine ⟨fun w' hC => ?_, ?_⟩; (go_simp <;> (first | rfl | exact ⟨rfl, rfl⟩)); apply Exists.intro; refine ⟨?_, ?_⟩; (go_simp <;> (first | rfl | exact ⟨rfl, rfl⟩)); go_big_quiet_on)
                    | (show Oper.quiet _ { dst := _, op := .call { callee := .value _, args := _, argTypes := _ }, type := _, pos := _, after := _, guard := _ } _ _ _; refine quiet_call ?_; apply Exists.intro; apply Exists.intro; refine ⟨fun w' hC => ?_, ?_⟩; (go_simp <;> (first | rfl | exact ⟨rfl, rfl⟩)); apply Exists.intro; refine ⟨fun w' hC => ?_, ?_⟩; (first

                        | fail); apply Exists.intro; refine ⟨?_, ?_⟩; (go_simp <;> (first | rfl | exact ⟨rfl, rfl⟩)); go_big_quiet_on)))
            all_goals refine wpQuiet_nil ?_
            intro w3 hw3
            clear o0 o1 o2 p0 p1 p2 c9l c6l
            have Z6 := Bq6.below hw3
            have Z9 := Bq9.below hw3
            have ZC := BqC.below hw3
            have y9 := (hw3.cell (p := ⟨b9, o9 + k, none⟩) hb9).trans hc9
            have p0 := Z6.at 0 rfl
            have p1 := Z6.at 1 rfl
            have p2 := Z6.at 2 rfl
            have o0 := Z9.at 0 rfl
            have o1 := Z9.at 1 rfl
            have o2 := Z9.at 2 rfl
            have s0 := ZC.at 0 rfl
            have s1 := ZC.at 1 rfl
            have s2 := ZC.at 2 rfl
            have s3 := ZC.at 3 rfl
            have s4 := ZC.at 4 rfl
            have s5 := ZC.at 5 rfl
            by_cases hx : x9 = x6
            · have zx : (x9 != x6) = false := by simpa using hx
              by_cases hkp : (k : Int) = ph
              · have zk : ((k : Int) == ph) = true := by simpa using hkp
                have zh : decide (gr ≥ hold) = false := by
                  simp only [decide_eq_false_iff_not]
                  intro hh
                  exact hch.2 hkp hh hx
                clear hx hkp hch
                go_wp2
                go_roundw
                case rel => exact ⟨k + 1, by omega, by go_num, hbq.trans (hw3.mono hbq.size)⟩
                case measure => simp [intOf]; omega
              · have zk : ((k : Int) == ph) = false := by simpa using hkp
                clear hx hkp hch
                go_wp2
                go_roundw
                case rel => exact ⟨k + 1, by omega, by go_num, hbq.trans (hw3.mono hbq.size)⟩
                case measure => simp [intOf]; omega
            · have zx : (x9 != x6) = true := by simpa using hx
              obtain ⟨h1, h2, h3⟩ := hch.1 hx
              have zk : ((k : Int) != ph) = false := by simpa using h1
              have zk2 : ((k : Int) == ph) = true := by simpa using h1
              have zg : (gr == 0) = false := by simp; omega
              have zn : (x9 != (N : Int)) = false := by simpa using h3
              by_cases hh : hold ≤ gr
              · have zh : decide (gr ≥ hold) = true := by simpa using hh
                clear hx hch h1 h2 h3 hh
                go_wp2
                go_roundw
                case rel => exact ⟨k + 1, by omega, by go_num, hbq.trans (hw3.mono hbq.size)⟩
                case measure => simp [intOf]; omega
              · have zh : decide (gr ≥ hold) = false := by simpa using hh
                clear hx hch h1 h2 h3 hh
                go_wp2
                go_roundw
                case rel => exact ⟨k + 1, by omega, by go_num, hbq.trans (hw3.mono hbq.size)⟩
                case measure => simp [intOf]; omega
          · have hneC : gc ≠ g := by omega
            have hne6 : g6 ≠ g := by omega
            have B9 := Bq9
            have B6 := Bq6
            have BC := BqC
            have hI9 := Iq9
            have hdr := hdrd.below hbq
            have hdk := hdr.ok
            have bz := bzd.trans (hbq.mono bzd.size)
            have hne9 := hneB9
            have hlt9 := Bq9.lt
            have hE9 := HE9.out
            obtain ⟨r3, hr3⟩ : ∃ r3, r3 = r1 - 1 := ⟨_, rfl⟩
            have hr3' : r3 ≤ r1 - 1 := by omega
            rw [← hr3] at hdr
            clear hr3 HGG
            go_wp2_with fail
            generalize hgW : wr = W at *
            clear hgW
            refine wp_region_pre (R := (Gs g)) 5 114 [fun v _ => v = .agg #[.int .i64 P, .int .i64 G, .slice A9 n c9], fun v _ => v = .pointer (some ⟨g, 0, none⟩), fun v w => ∃ x : Int, v = .int .i64 x, fun v w => ∃ x : Bool, v = .bool x, fun v w => ∃ (A : Option Addr) (c : Nat) (y : Int), v = .agg #[.int .i64 P, .int .i64 y, .slice A n c] ∧ 0 ≤ y ∧ y ≤ 60 ∧ Ints .i64 w (w).heap.size A E9 ∧ (∀ a, A = some a → W.heap.size ≤ a.block)] (Gs.trans) (Gs.drew) (by kernel_rfl) (fun _ _ d _ _ h => by cases d <;> exact h) rfl (by kernel_rfl) (stay_cons (stays_v _) (stay_cons (stays_v _) (stay_cons (fun v _ _ h _ => h) (stay_cons (fun v _ _ h _ => h) (stay_cons (fun v w w1 h hb => by obtain ⟨A, c, y, h1, h2, h3, h4, h5⟩ := h; exact ⟨A, c, y, h1, h2, h3, h4.gr hb.gr (fun a ha => by have := h5 a ha; omega), h5⟩) (stay_nil)))))) ?_ ?_
            · simp only [List.take_succ_cons, List.take_zero]
              refine steps_cons (Gs.refl) (fun ev xw hb hc hf hfr hd hr => ?_) ?_
              · have e9 : ev (.tmp 9) = .pointer (some ⟨g9, 0, none⟩) := hfr 9 (by kernel_rfl)
                clear hfr hd
                have q0 := (hb.blk B9 hne9).at 0 rfl
                have q1 := (hb.blk B9 hne9).at 1 rfl
                have q2 := (hb.blk B9 hne9).at 2 rfl
                show OpOk _ _ ev xw fun v w' => (Gs g) xw w' ∧ (v = .agg #[.int .i64 P, .int .i64 G, .slice A9 n c9])
                refine opOk_hid (fun Rp HR => ?_)
                unfold OpOk
                go_simp
                rw [HR.out]
                exact ⟨hr, rfl⟩
              refine steps_cons (Gs.refl) (fun ev xw hb hc hf hfr hd hr => ?_) ?_
              · have e3 : ev (.tmp 3) = .pointer (some ⟨g, 0, none⟩) := hfr 3 (by kernel_rfl)
                clear hfr hd
                show OpOk _ _ ev xw fun v w' => (Gs g) xw w' ∧ (v = .pointer (some ⟨g, 0, none⟩))
                refine opOk_hid (fun Rp HR => ?_)
                unfold OpOk
                go_simp
                rw [HR.out]
                exact ⟨hr, rfl⟩
              refine steps_cons (Gs.refl) (fun ev xw hb hc hf hfr hd hr => ?_) ?_
              · have e109 : ev (.tmp 109) = .pointer (some ⟨g, 0, none⟩) := hd 1 109 (by kernel_rfl)
                clear hfr hd
                show OpOk _ _ ev xw fun v w' => (Gs g) xw w' ∧ (∃ x : Int, v = .int .i64 x)
                refine opOk_hid (fun Rp HR => ?_)
                unfold OpOk
                go_simp
                refine (next_s g 3 xw (hb.gr.2 hdk) (by omega) (by omega)).mono ?_
                rintro e w'' ⟨hw, _, x, x0, x1, rfl⟩
                refine ⟨_, rfl, ?_⟩
                rw [HR.out]
                exact ⟨hw, x, rfl⟩
              refine steps_cons (Gs.refl) (fun ev xw hb hc hf hfr hd hr => ?_) ?_
              · obtain ⟨x110, e110⟩ : ∃ x : Int, ev (.tmp 110) = .int .i64 x := hd 2 110 (by kernel_rfl)
                clear hfr hd
                show OpOk _ _ ev xw fun v w' => (Gs g) xw w' ∧ (∃ x : Bool, v = .bool x)
                refine opOk_hid (fun Rp HR => ?_)
                unfold OpOk
                go_simp
                rw [HR.out]
                exact ⟨hr, _, rfl⟩
              refine steps_cons (Gs.refl) (fun ev xw hb hc hf hfr hd hr => ?_) ?_
              · have e108 : ev (.tmp 108) = .agg #[.int .i64 P, .int .i64 G, .slice A9 n c9] := hd 0 108 (by kernel_rfl)
                obtain ⟨x111, e111⟩ : ∃ x : Bool, ev (.tmp 111) = .bool x := hd 3 111 (by kernel_rfl)
                clear hfr hd
                show OpOk _ _ ev xw fun v w' => (Gs g) xw w' ∧ (∃ (A : Option Addr) (c : Nat) (y : Int), v = .agg #[.int .i64 P, .int .i64 y, .slice A n c] ∧ 0 ≤ y ∧ y ≤ 60 ∧ Ints .i64 w' (w').heap.size A E9 ∧ (∀ a, A = some a → W.heap.size ≤ a.block))
                refine opOk_hid (fun Rp HR => ?_)
                unfold OpOk
                go_simp
                have hIx := hI9.gr hb.gr hfar9
                have hszx := hb.size
                refine (count_any P G A9 n c9 E9 x111 xw hE9 hIx (by omega) (by omega) hG).mono ?_
                intro e w'' hS
                obtain ⟨A, c, rfl, hw, ho⟩ := hS
                refine ⟨_, rfl, ?_⟩
                rw [HR.out]
                refine ⟨Gs.of_below hw, A, c, _, rfl, (grC_bd x111 P hG).1, (grC_bd x111 P hG).2, ho.intsN.1, fun a ha => ?_⟩
                subst ha
                have := (ho.lt rfl).1
                show W.heap.size ≤ a.block
                omega
              exact steps_nil
            · intro vs W5 hb5 hk
              obtain ⟨A7, c7, y7, k7, l7, h7, I7, z7⟩ : ∃ (A : Option Addr) (c : Nat) (y : Int), vs 4 = .agg #[.int .i64 P, .int .i64 y, .slice A n c] ∧ 0 ≤ y ∧ y ≤ 60 ∧ Ints .i64 W5 W5.heap.size A E9 ∧ (∀ a, A = some a → W.heap.size ≤ a.block) := hk 4 (by omega)
              clear hk
              simp only [List.take_succ_cons, List.take_zero, List.drop_succ_cons, List.drop_zero, putAll, Act.put, List.setIfInBounds_toArray, List.set_cons_zero, List.set_cons_succ, k7, Nat.reduceAdd, Nat.reduceSub]
              clear k7
              have C6 := hb5.blk B6 hne6
              have CC := hb5.blk BC hneC
              have hszW := hb5.size
              have hD5 := hb5.2 r3 hdr
              have bz5 := hb5.base bz hgw
              refine wpList_store3 rfl rfl rfl rfl rfl C6 ⟨rfl, rfl, rfl⟩ ⟨_, _, rfl⟩ ⟨_, _, rfl⟩ ⟨_, _, _, rfl⟩ ?_
              intro wN N6 gN
              have NC := CC.grown gN (by intro e; injection e with e; omega)
              have NI : Ints .i64 wN wN.heap.size A7 E9 := fun h0 => by
                obtain ⟨bb, off, hA, hb, hc⟩ := I7 h0
                have hzz := z7 _ hA
                refine ⟨bb, off, hA, Nat.lt_of_lt_of_le hb gN.size, fun i hi => ?_⟩
                rw [← hc i hi]
                exact World.cell?_of_block (gN.block bb hb (fun e => by injection e with e; have : W.heap.size ≤ bb := hzz; omega))
              have NB := bz5.grown gN bz5.size (fun k e => by injection e with e; omega)
              obtain ⟨r5, hr5, hd5⟩ := hD5
              have ND := hd5.other gN (by intro e; injection e with e; omega) (fun k e hk => by injection e with e; omega)
              go_wp2
              go_roundw
              case rel => exact ⟨N + 1, P, y7, A7, c7, E9, r5, by omega, by simp, HP.out, ⟨l7, h7⟩, hE9, (fun x hx => by have := hE9u x hx; omega), NC, N6, NI, (fun a ha => by have := z7 a ha; omega), NB, ND, by omega⟩
              case measure =>
                have e1 := ND.rest
                have e2 := hdr0.rest
                show restW _ _ < restW _ _
                omega
      · have zr : decide (0 < r) = false := by simpa using hr1
        rw [zr]
        clear zr
        go_wp2_with fail
        refine (awake_any wa).mono ?_
        rintro e w4 ⟨rfl, hw4⟩
        have hBz := bz0.trans (hba.mono bz0.size)
        go_wp2
        go_ret
        exact ⟨rfl, hBz.trans (hw4.mono hBz.size)⟩
  · have HF : Hid (decide (l.length ≤ 300) = false) := Lib.hid (by simpa using hfew)
    go_enter Try.func5, Try.ntmps5
    go_wp2_with fail
    refine (few_any _ _ _ _).mono ?_; rintro e w' ⟨rfl, hw'⟩; subst hw'; rw [HF.out]
    go_wp2_with fail
    refine (awake_any w).mono ?_
    rintro e w4 ⟨rfl, hw4⟩
    go_wp2
    go_ret
    exact ⟨rfl, hw4⟩
end Go.Proofs.Ytikffoepndpfjaa

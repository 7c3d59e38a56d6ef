/-
  The law FrameDecides answers true: its walk. Conditions: none.
-/
import Derived.Test.YtahemaondkjpiaaSm
import Derived.Test.YtahemaondkjpiaaPx
import Derived.Test.YtahemaondkjpiaaSp
import Derived.Test.YtahemaondkjpiaaMr
import Derived.Deep.Cut
namespace Go.Proofs.Ytahemaondkjpiaa
open Go.ChangeShapes Go.WideShapes Go.RowKit
set_option linter.unusedVariables false

theorem jud_byte {l : List Int} (hb : Byte l) : Byte (jud l).2.2.1 := by
  unfold jud
  split
  · exact fun x hx => by cases hx
  · split
    · exact fun x hx => by cases hx
    · split
      · exact fun x hx => by cases hx
      · exact (hb.drop 6).take _
theorem par_byte {l : List Int} {r1 r2 r4 : Int} {r3 : List Int} {r5 : Bool} (hb : Byte l) (hq : par l = (r1, r2, r3, r4, r5)) : Byte r3 := by
  have h : Byte (par l).2.2.1 := by
    unfold par
    split
    · exact fun x hx => by cases hx
    · split
      · exact fun x hx => by cases hx
      · split
        · exact fun x hx => by cases hx
        · split
          · exact fun x hx => by cases hx
          · split
            · exact fun x hx => by cases hx
            · exact jud_byte (hb.take _)
  rw [hq] at h
  exact h
set_option maxRecDepth 100000 in
set_option maxHeartbeats 4000000 in
theorem decides_any (A0 : Option Addr) (c0 : Nat) (raw : List Int) (A : Option Addr) (c : Nat) (p : List Int) (A2 : Option Addr) (c2 : Nat) (more : List Int) (kind at' by' cut : Int) (w : World)
    (hs0 : Ints .u8 w w.heap.size A0 raw) (hby0 : Byte raw) (hl0 : raw.length ≤ 9223372036854775807) (hc0 : raw.length ≤ c0) (hcm0 : c0 ≤ 9223372036854775807)
    (hs : Ints .u8 w w.heap.size A p) (hbyp : Byte p) (hl : p.length ≤ 9223372036854775807) (hcp : p.length ≤ c) (hcm : c ≤ 9223372036854775807)
    (hs2 : Ints .u8 w w.heap.size A2 more) (hby2 : Byte more) (hl2 : more.length ≤ 9223372036854775807)
    (kk0 : -9223372036854775808 ≤ kind) (kk1 : kind ≤ 9223372036854775807) (at0 : -9223372036854775808 ≤ at') (at1 : at' ≤ 9223372036854775807) (by0 : -9223372036854775808 ≤ by') (by1 : by' ≤ 9223372036854775807) (cu0 : -9223372036854775808 ≤ cut) (cu1 : cut ≤ 9223372036854775807) :
    Calls Try.prog 5 #[.slice A0 raw.length c0, .slice A p.length c, .slice A2 more.length c2, .int .i64 kind, .int .i64 at', .int .i64 by', .int .i64 cut] w fun e w' => e = .returned (.bool true) ∧ Below w.heap.size w w' := by
  by_cases hall : raw.length ≤ 600 ∧ p.length ≤ 600 ∧ more.length ≤ 600
  · obtain ⟨r6, p6, m6⟩ := hall
    have d0 : decide (raw.length ≤ 600) = true := by simpa using r6
    have d1 : decide (p.length ≤ 600) = true := by simpa using p6
    have d2 : decide (more.length ≤ 600) = true := by simpa using m6
    obtain ⟨i30, hi30, hi30'⟩ := mod_n kind 30 (by omega)
    obtain ⟨m, hm⟩ : ∃ m, min p.length 200 = m := ⟨_, rfl⟩
    have hmI : (m : Int) = min (p.length : Int) 200 := by omega
    have hmle : m ≤ p.length ∧ m ≤ 200 := by omega
    have HMI := Lib.hid hmI
    clear hmI hm
    have hml : (p.take m).length = m := by rw [List.length_take]; omega
    have hok : encOk i30 (p.take m) = true := by simp [encOk]; omega
    go_enter Try.func5, Try.ntmps5
    go_wp2_with fail
    refine (short_any _ _ _ _ hl0).mono ?_; rw [d0]; rintro e w' ⟨rfl, hw'⟩; subst hw'
    go_wp2_with fail
    refine (short_any _ _ _ _ hl).mono ?_; rw [d1]; rintro e w' ⟨rfl, hw'⟩; subst hw'
    go_wp2_with fail
    refine (short_any _ _ _ _ hl2).mono ?_; rw [d2]; rintro e W ⟨rfl, hw'⟩; subst hw'
    have hpW := hs
    go_wp2_with fail
    refine wp_region_mono 13 126 [fun v _ => v = .int .i64 kind, fun v _ => v = .int .i64 i30, fun v _ => v = .slice A p.length c, fun v _ => v = .slice A p.length c, fun v _ => v = .int .i64 (p.length : Int), fun v _ => v = .int .i64 m, fun v _ => v = .slice A m c, fun v w => ∃ (g c : Nat), v = .tuple #[.slice (some ⟨g, 0, none⟩) (m + 10) c, .int .i64 0] ∧ m + 10 ≤ c ∧ c ≤ 9223372036854775807 ∧ Ints .u8 w w.heap.size (some ⟨g, 0, none⟩) (encL i30 (p.take m)), fun v w => ∃ (g c : Nat), v = .tuple #[.slice (some ⟨g, 0, none⟩) (m + 10) c, .int .i64 0] ∧ m + 10 ≤ c ∧ c ≤ 9223372036854775807 ∧ Ints .u8 w w.heap.size (some ⟨g, 0, none⟩) (encL i30 (p.take m)), fun v w => ∃ (g c : Nat), v = .slice (some ⟨g, 0, none⟩) (m + 10) c ∧ m + 10 ≤ c ∧ c ≤ 9223372036854775807 ∧ Ints .u8 w w.heap.size (some ⟨g, 0, none⟩) (encL i30 (p.take m)), fun v _ => v = .int .i64 0, fun v w => ∃ (g c : Nat), v = .slice (some ⟨g, 0, none⟩) (m + 10) c ∧ m + 10 ≤ c ∧ c ≤ 9223372036854775807 ∧ Ints .u8 w w.heap.size (some ⟨g, 0, none⟩) (encL i30 (p.take m)), fun v _ => v = .int .i64 0] (by kernel_rfl) (fun _ _ d _ _ h => by cases d <;> exact h) rfl (by kernel_rfl) (stay_cons (stays_v _) (stay_cons (stays_v _) (stay_cons (stays_v _) (stay_cons (stays_v _) (stay_cons (stays_v _) (stay_cons (stays_v _) (stay_cons (stays_v _) (stay_cons (fun _ _ _ ⟨g, c, h1, h2, h3, h4⟩ hb => ⟨g, c, h1, h2, h3, h4.grow hb⟩) (stay_cons (fun _ _ _ ⟨g, c, h1, h2, h3, h4⟩ hb => ⟨g, c, h1, h2, h3, h4.grow hb⟩) (stay_cons (fun _ _ _ ⟨g, c, h1, h2, h3, h4⟩ hb => ⟨g, c, h1, h2, h3, h4.grow hb⟩) (stay_cons (stays_v _) (stay_cons (fun _ _ _ ⟨g, c, h1, h2, h3, h4⟩ hb => ⟨g, c, h1, h2, h3, h4.grow hb⟩) (stay_cons (stays_v _) (stay_nil)))))))))))))) ?_ ?_
    · simp only [List.take_succ_cons, List.take_zero]
      refine steps_cons (fun ev xw hb hc hf hfr hd hr => ?_) ?_
      · have e3 : ev (.tmp 3) = .int .i64 kind := hfr 3 (by kernel_rfl)
        clear hfr hd
        show OpOk _ _ ev xw fun v w' => Below xw.heap.size xw w' ∧ v = .int .i64 kind
        unfold OpOk
        go_simp
      refine steps_cons (fun ev xw hb hc hf hfr hd hr => ?_) ?_
      · have e40 : ev (.tmp 40) = .int .i64 kind := hd 0 40 (by kernel_rfl)
        clear hfr hd
        show OpOk _ _ ev xw fun v w' => Below xw.heap.size xw w' ∧ v = .int .i64 i30
        unfold OpOk
        go_simp
        exact (mod_s hi30 (by omega) (by omega) (by omega) (by omega) _).mono fun e w'' ⟨he, hw⟩ => ⟨he, hw ▸ Below.refl _ _⟩
      refine steps_cons (fun ev xw hb hc hf hfr hd hr => ?_) ?_
      · have e1 : ev (.tmp 1) = .slice A p.length c := hfr 1 (by kernel_rfl)
        clear hfr hd
        show OpOk _ _ ev xw fun v w' => Below xw.heap.size xw w' ∧ v = .slice A p.length c
        unfold OpOk
        go_simp
      refine steps_cons (fun ev xw hb hc hf hfr hd hr => ?_) ?_
      · have e1 : ev (.tmp 1) = .slice A p.length c := hfr 1 (by kernel_rfl)
        clear hfr hd
        show OpOk _ _ ev xw fun v w' => Below xw.heap.size xw w' ∧ v = .slice A p.length c
        unfold OpOk
        go_simp
      refine steps_cons (fun ev xw hb hc hf hfr hd hr => ?_) ?_
      · have e43 : ev (.tmp 43) = .slice A p.length c := hd 3 43 (by kernel_rfl)
        clear hfr hd
        show OpOk _ _ ev xw fun v w' => Below xw.heap.size xw w' ∧ v = .int .i64 (p.length : Int)
        unfold OpOk
        go_simp
      refine steps_cons (fun ev xw hb hc hf hfr hd hr => ?_) ?_
      · have e44 : ev (.tmp 44) = .int .i64 (p.length : Int) := hd 4 44 (by kernel_rfl)
        clear hfr hd
        show OpOk _ _ ev xw fun v w' => Below xw.heap.size xw w' ∧ v = .int .i64 m
        unfold OpOk
        go_simp
        all_goals (rw [HMI.out])
        all_goals (split <;> omega)
      refine steps_cons (fun ev xw hb hc hf hfr hd hr => ?_) ?_
      · have e42 : ev (.tmp 42) = .slice A p.length c := hd 2 42 (by kernel_rfl)
        have e45 : ev (.tmp 45) = .int .i64 m := hd 5 45 (by kernel_rfl)
        clear hfr hd
        have im0 : (0 : Int) ≤ m := by omega
        have im1 : (m : Int) ≤ c := by omega
        show OpOk _ _ ev xw fun v w' => Below xw.heap.size xw w' ∧ v = .slice A m c
        unfold OpOk
        go_simp
      refine steps_cons (fun ev xw hb hc hf hfr hd hr => ?_) ?_
      · have e41 : ev (.tmp 41) = .int .i64 i30 := hd 1 41 (by kernel_rfl)
        have e46 : ev (.tmp 46) = .slice A m c := hd 6 46 (by kernel_rfl)
        clear hfr hd
        show OpOk _ _ ev xw fun v w' => Below xw.heap.size xw w' ∧ ∃ (g c : Nat), v = .tuple #[.slice (some ⟨g, 0, none⟩) (m + 10) c, .int .i64 0] ∧ m + 10 ≤ c ∧ c ≤ 9223372036854775807 ∧ Ints .u8 w' w'.heap.size (some ⟨g, 0, none⟩) (encL i30 (p.take m))
        unfold OpOk
        have hPx : Ints .u8 xw xw.heap.size A (p.take m) := ((hpW.below hb).more hb.size).take m
        have HE := rencode_any i30 A c (p.take m) xw hPx (hbyp.take m) (by rw [hml]; omega)
        rw [hml] at HE
        go_simp
        refine HE.mono ?_
        rintro e w'' ⟨hbb, h⟩
        rcases h with ⟨_, v, he, hO⟩ | ⟨hno, _⟩
        · obtain ⟨g, cc, hv, _, _, h1, h2, h3⟩ := own_cut hO (n := m + 10) (by rw [enc_len, hml]) (by omega)
          subst hv
          exact ⟨_, he, hbb, g, cc, rfl, h1, h2, h3⟩
        · rw [hok] at hno; cases hno
      refine steps_cons (fun ev xw hb hc hf hfr hd hr => ?_) ?_
      · obtain ⟨g47, c47, e47, x47, y47, z47⟩ : ∃ (g c : Nat), ev (.tmp 47) = .tuple #[.slice (some ⟨g, 0, none⟩) (m + 10) c, .int .i64 0] ∧ m + 10 ≤ c ∧ c ≤ 9223372036854775807 ∧ Ints .u8 xw xw.heap.size (some ⟨g, 0, none⟩) (encL i30 (p.take m)) := hd 7 47 (by kernel_rfl)
        clear hfr hd
        show OpOk _ _ ev xw fun v w' => Below xw.heap.size xw w' ∧ ∃ (g c : Nat), v = .tuple #[.slice (some ⟨g, 0, none⟩) (m + 10) c, .int .i64 0] ∧ m + 10 ≤ c ∧ c ≤ 9223372036854775807 ∧ Ints .u8 w' w'.heap.size (some ⟨g, 0, none⟩) (encL i30 (p.take m))
        unfold OpOk
        go_simp
        all_goals first | exact ⟨_, _, rfl, x47, y47, z47⟩ | exact ⟨_, _, ⟨rfl, rfl⟩, x47, y47, z47⟩ | exact ⟨_, rfl, x47, y47, z47⟩ | exact ⟨g47, c47, ⟨rfl, rfl⟩, x47, y47, z47⟩ | exact ⟨g47, ⟨rfl, x47, y47, z47⟩⟩ | exact ⟨g47, rfl, x47, y47, z47⟩ | (trace_state; sorry)
      refine steps_cons (fun ev xw hb hc hf hfr hd hr => ?_) ?_
      · obtain ⟨g39, c39, e39, x39, y39, z39⟩ : ∃ (g c : Nat), ev (.tmp 39) = .tuple #[.slice (some ⟨g, 0, none⟩) (m + 10) c, .int .i64 0] ∧ m + 10 ≤ c ∧ c ≤ 9223372036854775807 ∧ Ints .u8 xw xw.heap.size (some ⟨g, 0, none⟩) (encL i30 (p.take m)) := hd 8 39 (by kernel_rfl)
        clear hfr hd
        show OpOk _ _ ev xw fun v w' => Below xw.heap.size xw w' ∧ ∃ (g c : Nat), v = .slice (some ⟨g, 0, none⟩) (m + 10) c ∧ m + 10 ≤ c ∧ c ≤ 9223372036854775807 ∧ Ints .u8 w' w'.heap.size (some ⟨g, 0, none⟩) (encL i30 (p.take m))
        unfold OpOk
        go_simp
        all_goals first | exact ⟨_, _, rfl, x39, y39, z39⟩ | exact ⟨_, _, ⟨rfl, rfl⟩, x39, y39, z39⟩ | exact ⟨_, rfl, x39, y39, z39⟩ | exact ⟨g39, c39, ⟨rfl, rfl⟩, x39, y39, z39⟩ | exact ⟨g39, ⟨rfl, x39, y39, z39⟩⟩ | exact ⟨g39, rfl, x39, y39, z39⟩ | (trace_state; sorry)
      refine steps_cons (fun ev xw hb hc hf hfr hd hr => ?_) ?_
      · obtain ⟨g39, c39, e39, x39, y39, z39⟩ : ∃ (g c : Nat), ev (.tmp 39) = .tuple #[.slice (some ⟨g, 0, none⟩) (m + 10) c, .int .i64 0] ∧ m + 10 ≤ c ∧ c ≤ 9223372036854775807 ∧ Ints .u8 xw xw.heap.size (some ⟨g, 0, none⟩) (encL i30 (p.take m)) := hd 8 39 (by kernel_rfl)
        clear hfr hd
        show OpOk _ _ ev xw fun v w' => Below xw.heap.size xw w' ∧ v = .int .i64 0
        unfold OpOk
        go_simp
      refine steps_cons (fun ev xw hb hc hf hfr hd hr => ?_) ?_
      · obtain ⟨g48, c48, e48, x48, y48, z48⟩ : ∃ (g c : Nat), ev (.tmp 48) = .slice (some ⟨g, 0, none⟩) (m + 10) c ∧ m + 10 ≤ c ∧ c ≤ 9223372036854775807 ∧ Ints .u8 xw xw.heap.size (some ⟨g, 0, none⟩) (encL i30 (p.take m)) := hd 9 48 (by kernel_rfl)
        clear hfr hd
        show OpOk _ _ ev xw fun v w' => Below xw.heap.size xw w' ∧ ∃ (g c : Nat), v = .slice (some ⟨g, 0, none⟩) (m + 10) c ∧ m + 10 ≤ c ∧ c ≤ 9223372036854775807 ∧ Ints .u8 w' w'.heap.size (some ⟨g, 0, none⟩) (encL i30 (p.take m))
        unfold OpOk
        go_simp
        all_goals first | exact ⟨_, _, rfl, x48, y48, z48⟩ | exact ⟨_, _, ⟨rfl, rfl⟩, x48, y48, z48⟩ | exact ⟨_, rfl, x48, y48, z48⟩ | exact ⟨g48, c48, ⟨rfl, rfl⟩, x48, y48, z48⟩ | exact ⟨g48, ⟨rfl, x48, y48, z48⟩⟩ | exact ⟨g48, rfl, x48, y48, z48⟩ | (trace_state; sorry)
      refine steps_cons (fun ev xw hb hc hf hfr hd hr => ?_) ?_
      · have e49 : ev (.tmp 49) = .int .i64 0 := hd 10 49 (by kernel_rfl)
        clear hfr hd
        show OpOk _ _ ev xw fun v w' => Below xw.heap.size xw w' ∧ v = .int .i64 0
        unfold OpOk
        go_simp
      exact steps_nil
    · intro vs W3 hb3 hk
      obtain ⟨g15, c15, k15, x15, y15, z15⟩ : ∃ (g c : Nat), vs 11 = .slice (some ⟨g, 0, none⟩) (m + 10) c ∧ m + 10 ≤ c ∧ c ≤ 9223372036854775807 ∧ Ints .u8 W3 W3.heap.size (some ⟨g, 0, none⟩) (encL i30 (p.take m)) := hk 11 (by omega)
      clear hk
      simp only [List.take_succ_cons, List.take_zero, List.drop_succ_cons, List.drop_zero, putAll, Act.put, List.setIfInBounds_toArray, List.set_cons_zero, List.set_cons_succ, k15, Nat.reduceAdd]
      clear k15
      have hbL := Lib.hid (enc_byte (k := i30) (p := p.take m) (by omega) (by omega) (hbyp.take m) (by omega))
      have hlL := Lib.hid (show (encL i30 (p.take m)).length = m + 10 by rw [enc_len, hml])
      have hR3 := (hs0.below hb3).more hb3.size
      have hM3 := (hs2.below hb3).more hb3.size
      generalize encL i30 (p.take m) = L at *
      clear hml hok hpW hs hs0 hs2
      obtain ⟨ic, hic, hic'⟩ := mod_n cut (m + 11) (by omega)
      have hic2 : modI cut ((m : Int) + 10 + 1) = ic := by have := hic; push_cast at this; rw [show (m : Int) + 10 + 1 = m + 11 by omega]; exact this
      have HIC := Lib.hid hic2
      clear hic hic2
      have HSP := spoilt_any (some ⟨g15, 0, none⟩) c15 L at' by' W3 z15 hbL.out (by rw [hlL.out]; omega) at0 at1 by0 by1
      rw [hlL.out] at HSP
      have HSP' := Lib.hid HSP
      clear HSP
      go_wp2_with fail
      refine HSP'.out.mono ?_
      rintro e W4 ⟨As, cs, ls, rfl, s1, s2, s3, s4, s5, hb4⟩
      go_wp2_with fail
      refine (mod_s HIC.out (by omega) (by omega) cu0 cu1 _).mono ?_; rintro e w5 ⟨rfl, hw5⟩; subst hw5
      have b4 := hb3.trans (hb4.mono hb3.size)
      have z4 := z15.grow hb4
      have hR4 := hR3.grow hb4
      have hM4 := hM3.grow hb4
      go_wp2_with fail
      have GS := Blk.new (w := w5) (t := 22) (cs := #[.slice A0 raw.length c0, .slice (some ⟨g15, 0, none⟩) (m + 10) c15, .slice As ls.length cs, .slice (some ⟨g15, 0, none⟩) ic c15])
      have bS := lat_alloc (Below.refl w5.heap.size w5) (.cells #[.slice A0 raw.length c0, .slice (some ⟨g15, 0, none⟩) (m + 10) c15, .slice As ls.length cs, .slice (some ⟨g15, 0, none⟩) ic c15] 22)
      have z5 := z4.grow bS
      have hR5 := hR4.grow bS
      have hM5 := hM4.grow bS
      have s5' := s4.grow bS
      have b5 := b4.trans (bS.mono b4.size)
      generalize w5.alloc (.cells #[.slice A0 raw.length c0, .slice (some ⟨g15, 0, none⟩) (m + 10) c15, .slice As ls.length cs, .slice (some ⟨g15, 0, none⟩) ic c15] 22) = W5 at *
      generalize w5.heap.size = g63 at *
      clear bS z4 hR4 hM4 z15 hR3 hM3
      have hcells : ∀ r, r < 4 → ∃ (Ab : Option Addr) (b : List Int) (cb : Nat), (#[.slice A0 raw.length c0, .slice (some ⟨g15, 0, none⟩) (m + 10) c15, .slice As ls.length cs, .slice (some ⟨g15, 0, none⟩) ic c15] : Array Value)[r]? = some (.slice Ab b.length cb) ∧ Ints .u8 W5 W5.heap.size Ab b ∧ Byte b ∧ b.length ≤ cb ∧ cb ≤ 9223372036854775807 ∧ b.length ≤ 1300 := fun r hr => by
        match r, hr with
        | 0, _ => exact ⟨_, raw, c0, rfl, hR5, hby0, hc0, hcm0, by omega⟩
        | 1, _ => exact ⟨_, L, c15, by rw [hlL.out]; rfl, z5, hbL.out, by rw [hlL.out]; exact x15, y15, by rw [hlL.out]; omega⟩
        | 2, _ => exact ⟨_, ls, cs, rfl, s5', s5, s1, s2, s3⟩
        | 3, _ => exact ⟨_, L.take ic, c15, by rw [List.length_take, hlL.out, Nat.min_eq_left (by omega)]; rfl, z5.take ic, hbL.out.take ic, by rw [List.length_take, hlL.out]; omega, y15, by rw [List.length_take, hlL.out]; omega⟩
      clear hR5 z5 s5' HIC HSP' s4
      go_loopw [65] (fun v Wr => ∃ r : Nat, r ≤ 4 ∧ v = .int .i64 r ∧ Below W5.heap.size W5 Wr) (fun v _ => 4 - (intOf v).toNat)
      case atStart => exact ⟨0, by omega, rfl, Below.refl _ _⟩
      case round =>
        obtain ⟨r, hr, rfl, hbr⟩ := hrel
        by_cases hlt : r < 4
        · obtain ⟨Ab, b, cb, hcl, hIb, hBb, hb1, hb2, hb3⟩ := hcells r hlt
          have hck := (Blk.cell (GS.below hbr) r).trans hcl
          have hIr := hIb.grow hbr
          have hMr := hM5.grow hbr
          clear hcl
          rcases hq : par b with ⟨r1, r2, r3, r4, r5⟩
          have HQ := Lib.hid hq
          clear hq
          go_wp2_with fail
          refine (parse_known (n := b.length) rfl HQ.out hIr hBb hb1 hb2).mono ?_
          rintro e w6 ⟨h6, P, pc, rfl, hP⟩
          go_upto_region 8 with fail
          clear hck
          have b6 := hbr.trans (h6.mono hbr.size)
          have G19 := Blk.new (w := w6) (t := 36) (cs := #[.int .i64 r1, .int .i64 r2, .slice P r3.length pc])
          have bA := lat_alloc (Below.refl w6.heap.size w6) (.cells #[.int .i64 r1, .int .i64 r2, .slice P r3.length pc] 36)
          have hP7 := hP.grow bA
          have hI7 := (hIr.grow h6).grow bA
          have hM7 := (hMr.grow h6).grow bA
          have b7 := b6.trans (bA.mono b6.size)
          generalize w6.alloc (.cells #[.int .i64 r1, .int .i64 r2, .slice P r3.length pc] 36) = W7 at *
          generalize w6.heap.size = g19 at *
          go_wp2_with (first
            | (show wpList _ _ _ (Oper.mk (some 77) _ _ _ _ _ :: _) _ _; at_builtin; refine wpList_append_ints rfl (.const (.slice none 0 0)) (.tmp 76) _ rfl W7.heap.size 5 .u8 1 Try.underlying22 byte_info _ [] rfl (Own.nil_ _ _ _ _) _ _ b b.length rfl rfl hI7 (by simp; omega) (by omega) (Nat.le_refl _) ?_; intro v8 w8 O8 hg8 hat8; have b8 : Below W7.heap.size W7 w8 := (Below.refl W7.heap.size W7).grown hg8 (Nat.le_refl _) (fun k hk => by cases hk); rw [List.nil_append] at O8; clear hg8 hat8)
            | (show wpList _ _ _ (Oper.mk (some 79) _ _ _ _ _ :: _) _ _; at_builtin; refine wpList_append_ints rfl (.tmp 77) (.tmp 78) _ rfl W7.heap.size 5 .u8 1 Try.underlying22 byte_info _ _ rfl O8 _ _ more more.length rfl rfl (hM7.grow b8) (by omega) (by omega) b8.size ?_; intro v9 w9 O9 hg9 hat9; have b9 : Below W7.heap.size W7 w9 := b8.grown hg9 b8.size (fun k hk => (O8.lt hk).1); clear hg9 hat9; obtain ⟨A9, c9, hv9, h91, h92, hI9⟩ := O9.ints; rw [List.length_append] at hv9 h91; subst hv9))
          cases r5 with
          | true =>
            have hpm := par_more (more := more) hBb (by rw [HQ.out])
            have hq2 : par (b ++ more) = (r1, r2, r3, r4, true) := hpm.1.trans HQ.out
            have hu1 : 1 ≤ r4 := by have := hpm.2.1; rw [HQ.out] at this; exact this
            have hu2 : r4 ≤ b.length := by have := hpm.2.2; rw [HQ.out] at this; exact this
            have HQ2 := Lib.hid hq2
            clear hpm hq2
            refine (parse_known (n := b.length + more.length) List.length_append HQ2.out hI9 (hBb.app hby2) h91 h92).mono ?_
            rintro e w10 ⟨h10, P2, pc2, rfl, hP2⟩
            go_upto_region 9 with fail
            have b10 := (b7.trans (b9.mono b7.size)).trans (h10.mono (b7.trans (b9.mono b7.size)).size)
            have bB := lat_alloc (Below.refl w10.heap.size w10) (.cells #[.int .i64 r1, .int .i64 r2, .slice P2 r3.length pc2] 36)
            have G22 := Blk.new (w := w10) (t := 36) (cs := #[.int .i64 r1, .int .i64 r2, .slice P2 r3.length pc2])
            have G19' := ((G19.below b9).below h10).below bB
            have hPa := ((hP7.grow b9).grow h10).grow bB
            have hPb := hP2.grow bB
            have b11 := b10.trans (bB.mono b10.size)
            generalize w10.alloc (.cells #[.int .i64 r1, .int .i64 r2, .slice P2 r3.length pc2] 36) = W11 at *
            generalize w10.heap.size = g22 at *
            obtain ⟨a0, a1, a2, _, _, _⟩ := G19'.three
            obtain ⟨e0, e1, e2, _, _, _⟩ := (Blk.alloc G22 (.cells #[.int .i64 r1, .int .i64 r2, .slice P r3.length pc] 36)).three
            have H1 := Blk.alloc (Blk.new (w := W11) (t := 36) (cs := #[.int .i64 r1, .int .i64 r2, .slice P r3.length pc])) (.cells #[.int .i64 r1, .int .i64 r2, .slice P2 r3.length pc2] 36)
            have H2 := Blk.new (w := W11.alloc (.cells #[.int .i64 r1, .int .i64 r2, .slice P r3.length pc] 36)) (t := 36) (cs := #[.int .i64 r1, .int .i64 r2, .slice P2 r3.length pc2])
            rw [heap_size W11] at H2
            have bC := lat_alloc (lat_alloc (Below.refl W11.heap.size W11) (.cells #[.int .i64 r1, .int .i64 r2, .slice P r3.length pc] 36)) (.cells #[.int .i64 r1, .int .i64 r2, .slice P2 r3.length pc2] 36)
            have hPc := hPa.grow bC
            have hPd := hPb.grow bC
            have b13 := b11.trans (bC.mono b11.size)
            have hr3 : Byte r3 := par_byte hBb HQ.out
            go_wp2_with fail
            generalize (W11.alloc (.cells #[.int .i64 r1, .int .i64 r2, .slice P r3.length pc] 36)).alloc (.cells #[.int .i64 r1, .int .i64 r2, .slice P2 r3.length pc2] 36) = W13 at *
            refine (same_one _ _ r3.length pc pc2 r1 r2 P P2 r3 _ rfl H1 H2 hPc hPd hr3).mono ?_
            rintro e w14 ⟨rfl, h14⟩
            have b14 := b13.trans (h14.mono b13.size)
            go_wp2
            go_roundw
            case rel => exact ⟨r + 1, by omega, by go_num, b14⟩
            case measure => simp [intOf]; omega
          | false =>
            rcases hq2 : par (b ++ more) with ⟨t1, t2, t3, t4, t5⟩
            have HQ2 := Lib.hid hq2
            clear hq2
            have hsh : b.length < 210 := Classical.byContradiction fun h => by
              have := par_long hBb (by omega)
              rw [HQ.out] at this
              cases this
            refine (parse_known (n := b.length + more.length) List.length_append HQ2.out hI9 (hBb.app hby2) h91 h92).mono ?_
            rintro e w10 ⟨h10, P2, pc2, rfl, hP2⟩
            have b10 := (b7.trans (b9.mono b7.size)).trans (h10.mono (b7.trans (b9.mono b7.size)).size)
            have bF := b10.alloc b10.size (.cells #[.int .i64 t1, .int .i64 t2, .slice P2 t3.length pc2] 36)
            go_wp2
            go_roundw
            case rel => exact ⟨r + 1, by omega, by go_num, bF⟩
            case measure => simp [intOf]; omega
        · go_wp2_with fail
          refine (awake_any _).mono ?_; rintro e w8 ⟨rfl, hw8⟩
          go_wp2
          go_ret
          exact ⟨rfl, (b5.trans (hbr.mono b5.size)).trans (hw8.mono (b5.trans (hbr.mono b5.size)).size)⟩
  · by_cases r6 : raw.length ≤ 600
    · have d0 : decide (raw.length ≤ 600) = true := by simpa using r6
      by_cases p6 : p.length ≤ 600
      · have d1 : decide (p.length ≤ 600) = true := by simpa using p6
        have d2 : decide (more.length ≤ 600) = false := by simp; omega
        go_enter Try.func5, Try.ntmps5
        go_wp2_with fail
        refine (short_any _ _ _ _ hl0).mono ?_; rw [d0]; rintro e w' ⟨rfl, rfl⟩
        go_wp2_with fail
        refine (short_any _ _ _ _ hl).mono ?_; rw [d1]; rintro e w' ⟨rfl, rfl⟩
        go_wp2_with fail
        refine (short_any _ _ _ _ hl2).mono ?_; rw [d2]; rintro e w' ⟨rfl, rfl⟩
        go_wp2_with fail
        refine (awake_any _).mono ?_; rintro e w' ⟨rfl, hw⟩
        go_wp2
        go_ret
        exact ⟨rfl, hw⟩
      · have d1 : decide (p.length ≤ 600) = false := by simpa using p6
        go_enter Try.func5, Try.ntmps5
        go_wp2_with fail
        refine (short_any _ _ _ _ hl0).mono ?_; rw [d0]; rintro e w' ⟨rfl, rfl⟩
        go_wp2_with fail
        refine (short_any _ _ _ _ hl).mono ?_; rw [d1]; rintro e w' ⟨rfl, rfl⟩
        go_wp2_with fail
        refine (awake_any _).mono ?_; rintro e w' ⟨rfl, hw⟩
        go_wp2
        go_ret
        exact ⟨rfl, hw⟩
    · have d0 : decide (raw.length ≤ 600) = false := by simpa using r6
      go_enter Try.func5, Try.ntmps5
      go_wp2_with fail
      refine (short_any _ _ _ _ hl0).mono ?_; rw [d0]; rintro e w' ⟨rfl, rfl⟩
      go_wp2_with fail
      refine (awake_any _).mono ?_; rintro e w' ⟨rfl, hw⟩
      go_wp2
      go_ret
      exact ⟨rfl, hw⟩
end Go.Proofs.Ytahemaondkjpiaa

/-
  The law FrameParses answers true: its walk. Conditions: none.
-/
import Derived.Test.YtahemaondkjpiaaSa
import Derived.Test.YtahemaondkjpiaaPx
import Derived.Test.YtahemaondkjpiaaSp
import Derived.Test.YtahemaondkjpiaaMr
import Derived.Deep.Cut
namespace Go.Proofs.Ytahemaondkjpiaa
open Go.ChangeShapes Go.WideShapes Go.RowKit
set_option linter.unusedVariables false

theorem same_n {A : Option Addr} {c n : Nat} {l : List Int} {w : World} (hn : l.length = n) (hs : Ints .u8 w w.heap.size A l) (hby : Byte l) (hc : n ≤ c) (hcm : c ≤ 9223372036854775807) :
    Calls Try.prog 15 #[.slice A n c] w fun e w' => e = .returned (.bool true) ∧ Below w.heap.size w w' := by
  subst hn
  exact same_any A c l w hs hby hc hcm
/-- append of numbers at a guarded operation that is wanted. -/
theorem wpList_append_w {P : Program} {w : World} {ops : Array Oper} {rest : List Oper} {o : Oper} {a : Act} {Q : Exit → Act → World → Prop} (hw : Region.wanted o (yielded ops a.tmps) = true) (s x : Operand) (t : TypeId)
    (ho : o.op = .call { callee := .builtin .append, args := #[s, x], argTypes := #[t, t] })
    (base : Nat) (e : TypeId) (k : IntKind) (bytes : Nat) (ht : P.underlying t = some (.slice e))
    (hin : (P.info? e).map (fun i => (i.zero, i.size, i.bytes)) = some (some (.int k 0), 1, bytes)) (v : Value) (l : List Int) (hs : a.eval s = v) (hown : Own k e w base v l)
    (A : Option Addr) (c : Nat) (m : List Int) (n : Nat) (hn : m.length = n) (hx : a.eval x = .slice A n c) (hm : Ints k w w.heap.size A m) (hlen : l.length + m.length ≤ 1000000000000) (hby : bytes ≤ 8) (hbase : base ≤ w.heap.size)
    (h : ∀ v' w', Own k e w' base v' (l ++ m) → w.grownBy w' v.ownBlock → (v'.ownBlock = v.ownBlock ∨ v'.ownBlock = some w.heap.size) → wpList P ops Q rest (a.put o.dst v') w') : wpList P ops Q (o :: rest) a w := by
  unfold wpList
  rw [if_pos hw]
  exact .inl (wp_append_ints s x t ho base e k bytes ht hin v l hs hown A c m n hn hx hm hlen hby hbase h)
set_option maxRecDepth 100000 in
set_option maxHeartbeats 4000000 in
theorem parses_any (A0 : Option Addr) (c0 : Nat) (raw : List Int) (A : Option Addr) (c : Nat) (p : List Int) (kind at' by' : Int) (w : World)
    (hs0 : Ints .u8 w w.heap.size A0 raw) (hby0 : Byte raw) (hl0 : raw.length ≤ 9223372036854775807) (hc0 : raw.length ≤ c0) (hcm0 : c0 ≤ 9223372036854775807)
    (hs : Ints .u8 w w.heap.size A p) (hbyp : Byte p) (hl : p.length ≤ 9223372036854775807) (hcp : p.length ≤ c) (hcm : c ≤ 9223372036854775807)
    (kk0 : -9223372036854775808 ≤ kind) (kk1 : kind ≤ 9223372036854775807) (at0 : -9223372036854775808 ≤ at') (at1 : at' ≤ 9223372036854775807) (by0 : -9223372036854775808 ≤ by') (by1 : by' ≤ 9223372036854775807) :
    Calls Try.prog 4 #[.slice A0 raw.length c0, .slice A p.length c, .int .i64 kind, .int .i64 at', .int .i64 by'] w fun e w' => e = .returned (.bool true) ∧ Below w.heap.size w w' := by
  by_cases hall : raw.length ≤ 600 ∧ p.length ≤ 600
  · obtain ⟨r6, p6⟩ := hall
    have d0 : decide (raw.length ≤ 600) = true := by simpa using r6
    have d1 : decide (p.length ≤ 600) = true := by simpa using p6
    obtain ⟨i30, hi30, hi30'⟩ := mod_n kind 30 (by omega)
    obtain ⟨m, hm⟩ : ∃ m, min p.length 200 = m := ⟨_, rfl⟩
    have hmI : (m : Int) = min (p.length : Int) 200 := by omega
    have hmle : m ≤ p.length ∧ m ≤ 200 := by omega
    have HMI := Lib.hid hmI
    clear hmI hm
    have hml : (p.take m).length = m := by rw [List.length_take]; omega
    have hok : encOk i30 (p.take m) = true := by simp [encOk]; omega
    go_enter Try.func4, Try.ntmps4
    go_wp2_with fail
    refine (short_any _ _ _ _ hl0).mono ?_; rw [d0]; rintro e w' ⟨rfl, hw'⟩; subst hw'
    go_wp2_with fail
    refine (short_any _ _ _ _ hl).mono ?_; rw [d1]; rintro e W ⟨rfl, hw'⟩; subst hw'
    have hpW := hs
    go_wp2_with fail
    refine wp_region_mono 13 74 [fun v _ => v = .int .i64 kind, fun v _ => v = .int .i64 i30, fun v _ => v = .slice A p.length c, fun v _ => v = .slice A p.length c, fun v _ => v = .int .i64 (p.length : Int), fun v _ => v = .int .i64 m, fun v _ => v = .slice A m c, fun v w => ∃ (g c : Nat), v = .tuple #[.slice (some ⟨g, 0, none⟩) (m + 10) c, .int .i64 0] ∧ m + 10 ≤ c ∧ c ≤ 9223372036854775807 ∧ Ints .u8 w w.heap.size (some ⟨g, 0, none⟩) (encL i30 (p.take m)), fun v w => ∃ (g c : Nat), v = .tuple #[.slice (some ⟨g, 0, none⟩) (m + 10) c, .int .i64 0] ∧ m + 10 ≤ c ∧ c ≤ 9223372036854775807 ∧ Ints .u8 w w.heap.size (some ⟨g, 0, none⟩) (encL i30 (p.take m)), fun v w => ∃ (g c : Nat), v = .slice (some ⟨g, 0, none⟩) (m + 10) c ∧ m + 10 ≤ c ∧ c ≤ 9223372036854775807 ∧ Ints .u8 w w.heap.size (some ⟨g, 0, none⟩) (encL i30 (p.take m)), fun v _ => v = .int .i64 0, fun v w => ∃ (g c : Nat), v = .slice (some ⟨g, 0, none⟩) (m + 10) c ∧ m + 10 ≤ c ∧ c ≤ 9223372036854775807 ∧ Ints .u8 w w.heap.size (some ⟨g, 0, none⟩) (encL i30 (p.take m)), fun v _ => v = .int .i64 0] (by kernel_rfl) (fun _ _ d _ _ h => by cases d <;> exact h) rfl (by kernel_rfl) (stay_cons (stays_v _) (stay_cons (stays_v _) (stay_cons (stays_v _) (stay_cons (stays_v _) (stay_cons (stays_v _) (stay_cons (stays_v _) (stay_cons (stays_v _) (stay_cons (fun _ _ _ ⟨g, c, h1, h2, h3, h4⟩ hb => ⟨g, c, h1, h2, h3, h4.grow hb⟩) (stay_cons (fun _ _ _ ⟨g, c, h1, h2, h3, h4⟩ hb => ⟨g, c, h1, h2, h3, h4.grow hb⟩) (stay_cons (fun _ _ _ ⟨g, c, h1, h2, h3, h4⟩ hb => ⟨g, c, h1, h2, h3, h4.grow hb⟩) (stay_cons (stays_v _) (stay_cons (fun _ _ _ ⟨g, c, h1, h2, h3, h4⟩ hb => ⟨g, c, h1, h2, h3, h4.grow hb⟩) (stay_cons (stays_v _) (stay_nil)))))))))))))) ?_ ?_
    · simp only [List.take_succ_cons, List.take_zero]
      refine steps_cons (fun ev xw hb hc hf hfr hd hr => ?_) ?_
      · have e2 : ev (.tmp 2) = .int .i64 kind := hfr 2 (by kernel_rfl)
        clear hfr hd
        show OpOk _ _ ev xw fun v w' => Below xw.heap.size xw w' ∧ v = .int .i64 kind
        unfold OpOk
        go_simp
      refine steps_cons (fun ev xw hb hc hf hfr hd hr => ?_) ?_
      · have e24 : ev (.tmp 24) = .int .i64 kind := hd 0 24 (by kernel_rfl)
        clear hfr hd
        show OpOk _ _ ev xw fun v w' => Below xw.heap.size xw w' ∧ v = .int .i64 i30
        unfold OpOk
        go_simp
        exact (mod_s hi30 (by omega) (by omega) (by omega) (by omega) _).mono fun e w'' ⟨he, hw⟩ => ⟨he, hw ▸ Below.refl _ _⟩
      refine steps_cons (fun ev xw hb hc hf hfr hd hr => ?_) ?_
      · have e1 : ev (.tmp 1) = .slice A p.length c := hfr 1 (by kernel_rfl)
        clear hfr hd
        show OpOk _ _ ev xw fun v w' => Below xw.heap.size xw w' ∧ v = .slice A p.length c
        unfold OpOk
        go_simp
      refine steps_cons (fun ev xw hb hc hf hfr hd hr => ?_) ?_
      · have e1 : ev (.tmp 1) = .slice A p.length c := hfr 1 (by kernel_rfl)
        clear hfr hd
        show OpOk _ _ ev xw fun v w' => Below xw.heap.size xw w' ∧ v = .slice A p.length c
        unfold OpOk
        go_simp
      refine steps_cons (fun ev xw hb hc hf hfr hd hr => ?_) ?_
      · have e27 : ev (.tmp 27) = .slice A p.length c := hd 3 27 (by kernel_rfl)
        clear hfr hd
        show OpOk _ _ ev xw fun v w' => Below xw.heap.size xw w' ∧ v = .int .i64 (p.length : Int)
        unfold OpOk
        go_simp
      refine steps_cons (fun ev xw hb hc hf hfr hd hr => ?_) ?_
      · have e28 : ev (.tmp 28) = .int .i64 (p.length : Int) := hd 4 28 (by kernel_rfl)
        clear hfr hd
        show OpOk _ _ ev xw fun v w' => Below xw.heap.size xw w' ∧ v = .int .i64 m
        unfold OpOk
        go_simp
        all_goals (rw [HMI.out])
        all_goals (split <;> omega)
      refine steps_cons (fun ev xw hb hc hf hfr hd hr => ?_) ?_
      · have e26 : ev (.tmp 26) = .slice A p.length c := hd 2 26 (by kernel_rfl)
        have e29 : ev (.tmp 29) = .int .i64 m := hd 5 29 (by kernel_rfl)
        clear hfr hd
        have im0 : (0 : Int) ≤ m := by omega
        have im1 : (m : Int) ≤ c := by omega
        show OpOk _ _ ev xw fun v w' => Below xw.heap.size xw w' ∧ v = .slice A m c
        unfold OpOk
        go_simp
      refine steps_cons (fun ev xw hb hc hf hfr hd hr => ?_) ?_
      · have e25 : ev (.tmp 25) = .int .i64 i30 := hd 1 25 (by kernel_rfl)
        have e30 : ev (.tmp 30) = .slice A m c := hd 6 30 (by kernel_rfl)
        clear hfr hd
        show OpOk _ _ ev xw fun v w' => Below xw.heap.size xw w' ∧ ∃ (g c : Nat), v = .tuple #[.slice (some ⟨g, 0, none⟩) (m + 10) c, .int .i64 0] ∧ m + 10 ≤ c ∧ c ≤ 9223372036854775807 ∧ Ints .u8 w' w'.heap.size (some ⟨g, 0, none⟩) (encL i30 (p.take m))
        unfold OpOk
        have hPx : Ints .u8 xw xw.heap.size A (p.take m) := ((hpW.below hb).more hb.size).take m
        have HE := rencode_any i30 A c (p.take m) xw hPx (hbyp.take m) (by rw [hml]; omega)
        rw [hml] at HE
        go_simp
        refine HE.mono ?_
        rintro e w'' ⟨hbb, h⟩
        rcases h with ⟨_, v, he, hO⟩ | ⟨hno, _⟩
        · obtain ⟨g, cc, hv, _, _, h1, h2, h3⟩ := own_cut hO (n := m + 10) (by rw [enc_len, hml]) (by omega)
          subst hv
          exact ⟨_, he, hbb, g, cc, rfl, h1, h2, h3⟩
        · rw [hok] at hno; cases hno
      refine steps_cons (fun ev xw hb hc hf hfr hd hr => ?_) ?_
      · obtain ⟨g31, c31, e31, x31, y31, z31⟩ : ∃ (g c : Nat), ev (.tmp 31) = .tuple #[.slice (some ⟨g, 0, none⟩) (m + 10) c, .int .i64 0] ∧ m + 10 ≤ c ∧ c ≤ 9223372036854775807 ∧ Ints .u8 xw xw.heap.size (some ⟨g, 0, none⟩) (encL i30 (p.take m)) := hd 7 31 (by kernel_rfl)
        clear hfr hd
        show OpOk _ _ ev xw fun v w' => Below xw.heap.size xw w' ∧ ∃ (g c : Nat), v = .tuple #[.slice (some ⟨g, 0, none⟩) (m + 10) c, .int .i64 0] ∧ m + 10 ≤ c ∧ c ≤ 9223372036854775807 ∧ Ints .u8 w' w'.heap.size (some ⟨g, 0, none⟩) (encL i30 (p.take m))
        unfold OpOk
        go_simp
        all_goals first | exact ⟨_, _, rfl, x31, y31, z31⟩ | exact ⟨_, _, ⟨rfl, rfl⟩, x31, y31, z31⟩ | exact ⟨_, rfl, x31, y31, z31⟩ | exact ⟨g31, c31, ⟨rfl, rfl⟩, x31, y31, z31⟩ | exact ⟨g31, ⟨rfl, x31, y31, z31⟩⟩ | exact ⟨g31, rfl, x31, y31, z31⟩ | (trace_state; sorry)
      refine steps_cons (fun ev xw hb hc hf hfr hd hr => ?_) ?_
      · obtain ⟨g23, c23, e23, x23, y23, z23⟩ : ∃ (g c : Nat), ev (.tmp 23) = .tuple #[.slice (some ⟨g, 0, none⟩) (m + 10) c, .int .i64 0] ∧ m + 10 ≤ c ∧ c ≤ 9223372036854775807 ∧ Ints .u8 xw xw.heap.size (some ⟨g, 0, none⟩) (encL i30 (p.take m)) := hd 8 23 (by kernel_rfl)
        clear hfr hd
        show OpOk _ _ ev xw fun v w' => Below xw.heap.size xw w' ∧ ∃ (g c : Nat), v = .slice (some ⟨g, 0, none⟩) (m + 10) c ∧ m + 10 ≤ c ∧ c ≤ 9223372036854775807 ∧ Ints .u8 w' w'.heap.size (some ⟨g, 0, none⟩) (encL i30 (p.take m))
        unfold OpOk
        go_simp
        all_goals first | exact ⟨_, _, rfl, x23, y23, z23⟩ | exact ⟨_, _, ⟨rfl, rfl⟩, x23, y23, z23⟩ | exact ⟨_, rfl, x23, y23, z23⟩ | exact ⟨g23, c23, ⟨rfl, rfl⟩, x23, y23, z23⟩ | exact ⟨g23, ⟨rfl, x23, y23, z23⟩⟩ | exact ⟨g23, rfl, x23, y23, z23⟩ | (trace_state; sorry)
      refine steps_cons (fun ev xw hb hc hf hfr hd hr => ?_) ?_
      · obtain ⟨g23, c23, e23, x23, y23, z23⟩ : ∃ (g c : Nat), ev (.tmp 23) = .tuple #[.slice (some ⟨g, 0, none⟩) (m + 10) c, .int .i64 0] ∧ m + 10 ≤ c ∧ c ≤ 9223372036854775807 ∧ Ints .u8 xw xw.heap.size (some ⟨g, 0, none⟩) (encL i30 (p.take m)) := hd 8 23 (by kernel_rfl)
        clear hfr hd
        show OpOk _ _ ev xw fun v w' => Below xw.heap.size xw w' ∧ v = .int .i64 0
        unfold OpOk
        go_simp
      refine steps_cons (fun ev xw hb hc hf hfr hd hr => ?_) ?_
      · obtain ⟨g32, c32, e32, x32, y32, z32⟩ : ∃ (g c : Nat), ev (.tmp 32) = .slice (some ⟨g, 0, none⟩) (m + 10) c ∧ m + 10 ≤ c ∧ c ≤ 9223372036854775807 ∧ Ints .u8 xw xw.heap.size (some ⟨g, 0, none⟩) (encL i30 (p.take m)) := hd 9 32 (by kernel_rfl)
        clear hfr hd
        show OpOk _ _ ev xw fun v w' => Below xw.heap.size xw w' ∧ ∃ (g c : Nat), v = .slice (some ⟨g, 0, none⟩) (m + 10) c ∧ m + 10 ≤ c ∧ c ≤ 9223372036854775807 ∧ Ints .u8 w' w'.heap.size (some ⟨g, 0, none⟩) (encL i30 (p.take m))
        unfold OpOk
        go_simp
        all_goals first | exact ⟨_, _, rfl, x32, y32, z32⟩ | exact ⟨_, _, ⟨rfl, rfl⟩, x32, y32, z32⟩ | exact ⟨_, rfl, x32, y32, z32⟩ | exact ⟨g32, c32, ⟨rfl, rfl⟩, x32, y32, z32⟩ | exact ⟨g32, ⟨rfl, x32, y32, z32⟩⟩ | exact ⟨g32, rfl, x32, y32, z32⟩ | (trace_state; sorry)
      refine steps_cons (fun ev xw hb hc hf hfr hd hr => ?_) ?_
      · have e33 : ev (.tmp 33) = .int .i64 0 := hd 10 33 (by kernel_rfl)
        clear hfr hd
        show OpOk _ _ ev xw fun v w' => Below xw.heap.size xw w' ∧ v = .int .i64 0
        unfold OpOk
        go_simp
      exact steps_nil
    · intro vs W3 hb3 hk
      obtain ⟨g11, c11, k11, x11, y11, z11⟩ : ∃ (g c : Nat), vs 11 = .slice (some ⟨g, 0, none⟩) (m + 10) c ∧ m + 10 ≤ c ∧ c ≤ 9223372036854775807 ∧ Ints .u8 W3 W3.heap.size (some ⟨g, 0, none⟩) (encL i30 (p.take m)) := hk 11 (by omega)
      clear hk
      simp only [List.take_succ_cons, List.take_zero, List.drop_succ_cons, List.drop_zero, putAll, Act.put, List.setIfInBounds_toArray, List.set_cons_zero, List.set_cons_succ, k11, Nat.reduceAdd]
      clear k11
      have hbL := Lib.hid (enc_byte (k := i30) (p := p.take m) (by omega) (by omega) (hbyp.take m) (by omega))
      have hlL := Lib.hid (show (encL i30 (p.take m)).length = m + 10 by rw [enc_len, hml])
      have hR3 := (hs0.below hb3).more hb3.size
      generalize encL i30 (p.take m) = L at *
      clear hml hok hpW hs hs0 HMI
      have bb0 : 0 ≤ by' % 256 ∧ by' % 256 ≤ 255 := by omega
      have ab0 : 0 ≤ at' % 256 ∧ at' % 256 ≤ 255 := by omega
      have O6 := own_new (k := .u8) (e := 5) (w := W3) (base := W3.heap.size) #[.int .u8 90, .int .u8 165, .int .u8 1, .int .u8 2, .int .u8 (by' % 256), .int .u8 (at' % 256)] [90, 165, 1, 2, by' % 256, at' % 256] rfl (Nat.le_refl _) (by simp)
      have b6 := lat_alloc (Below.refl W3.heap.size W3) (.cells #[.int .u8 90, .int .u8 165, .int .u8 1, .int .u8 2, .int .u8 (by' % 256), .int .u8 (at' % 256)] 5)
      have hR6 := hR3.grow b6
      have z6 := z11.grow b6
      go_wp2_with (show wpList _ _ _ (Oper.mk (some 40) _ _ _ _ _ :: _) _ _; at_builtin; refine wpList_append_ints rfl (.tmp 38) (.tmp 39) _ rfl W3.heap.size 5 .u8 1 Try.underlying22 byte_info _ _ rfl O6 _ _ raw raw.length rfl rfl hR6 (by simp <;> omega) (by omega) b6.size ?_; intro v4 w4 O4 hg4 hat4; have b4 : Below W3.heap.size W3 w4 := b6.grown hg4 b6.size (fun q hq => (O6.lt hq).1); clear hg4 hat4; obtain ⟨g4, c4, hv4, _, _, hc4, hm4, hI4⟩ := own_cut (n := raw.length + 6) O4 (by simp <;> omega) (by omega); subst hv4)
      have hB4 : Byte ([90, 165, 1, 2, by' % 256, at' % 256] ++ raw) := Byte.app (fun n hn => by simp at hn; rcases hn with rfl | rfl | rfl | rfl | rfl | rfl <;> omega) hby0
      have hl4 := Lib.hid (show ([90, 165, 1, 2, by' % 256, at' % 256] ++ raw).length = raw.length + 6 by simp <;> omega)
      have hR4 := hR3.grow b4
      have z4 := z11.grow b4
      have b44 := hb3.trans (b4.mono hb3.size)
      generalize ([90, 165, 1, 2, by' % 256, at' % 256] ++ raw : List Int) = long at *
      clear O6 b6 hR6 z6 O4
      refine (same_n rfl hR4 hby0 hc0 hcm0).mono ?_; rintro e w5 ⟨rfl, h5⟩
      have b5 := b44.trans (h5.mono b44.size)
      go_wp2_with fail
      refine (same_n hlL.out (z4.grow h5) hbL.out x11 y11).mono ?_; rintro e w6 ⟨rfl, h6⟩
      have b6 := b5.trans (h6.mono b5.size)
      have hR6 := (hR4.grow h5).grow h6
      have z6 := (z4.grow h5).grow h6
      have hI6 := (hI4.grow h5).grow h6
      clear hR4 z4 hI4 z11 hR3
      have HSP := spoilt_any (some ⟨g11, 0, none⟩) c11 L at' by' w6 z6 hbL.out (by rw [hlL.out]; omega) at0 at1 by0 by1
      rw [hlL.out] at HSP
      have HSP' := Lib.hid HSP
      clear HSP
      go_wp2_with fail
      refine HSP'.out.mono ?_
      rintro e w7 ⟨As, cs, ls, rfl, s1, s2, s3, s4, s5, h7⟩
      have b7 := b6.trans (h7.mono b6.size)
      go_wp2_with fail
      refine (same_n rfl s4 s5 s1 s2).mono ?_; rintro e w8 ⟨rfl, h8⟩
      have b8 := b7.trans (h8.mono b7.size)
      have hR8 := (hR6.grow h7).grow h8
      have z8 := (z6.grow h7).grow h8
      have hI8 := (hI6.grow h7).grow h8
      clear hR6 z6 hI6 s4 HSP'
      go_wp2_with (first
        | (show wpList _ _ _ (Oper.mk (some 56) _ _ _ _ _ :: _) _ _; at_builtin; refine wpList_append_w (by rfl) (.const (.slice none 0 0)) (.tmp 55) _ rfl w8.heap.size 5 .u8 1 Try.underlying22 byte_info _ [] rfl (Own.nil_ _ _ _ _) _ _ L (m + 10) hlL.out rfl z8 (by rw [hlL.out]; simp; omega) (by omega) (Nat.le_refl _) ?_; intro v9 w9 O9 hg9 hat9; have h9 : Below w8.heap.size w8 w9 := (Below.refl w8.heap.size w8).grown hg9 (Nat.le_refl _) (fun k hk => by cases hk); rw [List.nil_append] at O9; clear hg9 hat9)
        | (show wpList _ _ _ (Oper.mk (some 58) _ _ _ _ _ :: _) _ _; at_builtin; refine wpList_append_w (by rfl) (.tmp 56) (.tmp 57) _ rfl w8.heap.size 5 .u8 1 Try.underlying22 byte_info _ _ rfl O9 _ _ raw raw.length rfl rfl (hR8.grow h9) (by rw [hlL.out]; omega) (by omega) h9.size ?_; intro v10 w10 O10 hg10 hat10; have h10 : Below w8.heap.size w8 w10 := h9.grown hg10 h9.size (fun k hk => (O9.lt hk).1); clear hg10 hat10; obtain ⟨A10, c10, hv10, h101, h102, hI10⟩ := O10.ints; rw [List.length_append, hlL.out] at hv10 h101; subst hv10))
      refine (same_n (by rw [List.length_append, hlL.out]) hI10 (hbL.out.app hby0) h101 h102).mono ?_; rintro e w11 ⟨rfl, h11⟩
      have k11 := h10.trans (h11.mono h10.size)
      have b11 := b8.trans (k11.mono b8.size)
      go_wp2_with fail
      refine (same_n hl4.out (hI8.grow k11) hB4 hc4 hm4).mono ?_; rintro e w12 ⟨rfl, h12⟩
      have k12 := k11.trans (h12.mono k11.size)
      have b12 := b8.trans (k12.mono b8.size)
      have hR12 := hR8.grow k12
      clear hR8 z8 hI8 O9 O10 hI10
      have O13 := own_new (k := .u8) (e := 5) (w := w12) (base := w12.heap.size) #[.int .u8 90, .int .u8 165] [90, 165] rfl (Nat.le_refl _) (by simp)
      have h13 := lat_alloc (Below.refl w12.heap.size w12) (.cells #[.int .u8 90, .int .u8 165] 5)
      have hR13 := hR12.grow h13
      go_wp2_with (show wpList _ _ _ (Oper.mk (some 68) _ _ _ _ _ :: _) _ _; at_builtin; refine wpList_append_w (by rfl) (.tmp 66) (.tmp 67) _ rfl w12.heap.size 5 .u8 1 Try.underlying22 byte_info _ _ rfl O13 _ _ raw raw.length rfl rfl hR13 (by simp <;> omega) (by omega) h13.size ?_; intro v14 w14 O14 hg14 hat14; have h14 : Below w12.heap.size w12 w14 := h13.grown hg14 h13.size (fun q hq => (O13.lt hq).1); clear hg14 hat14; obtain ⟨A14, c14, hv14, h141, h142, hI14⟩ := O14.ints; rw [List.length_append] at hv14 h141; subst hv14)
      refine (same_n List.length_append hI14 (Byte.app (fun n hn => by simp at hn; rcases hn with rfl | rfl <;> omega) hby0) h141 h142).mono ?_; rintro e w15 ⟨rfl, h15⟩
      have b14 := b12.trans (h14.mono b12.size)
      have b15 := b14.trans (h15.mono b14.size)
      go_wp2_with fail
      refine (awake_any _).mono ?_; rintro e w16 ⟨rfl, h16⟩
      go_wp2
      go_ret
      exact ⟨rfl, b15.trans (h16.mono b15.size)⟩

  · by_cases r6 : raw.length ≤ 600
    · have d0 : decide (raw.length ≤ 600) = true := by simpa using r6
      have d1 : decide (p.length ≤ 600) = false := by simp; omega
      go_enter Try.func4, Try.ntmps4
      go_wp2_with fail
      refine (short_any _ _ _ _ hl0).mono ?_; rw [d0]; rintro e w' ⟨rfl, rfl⟩
      go_wp2_with fail
      refine (short_any _ _ _ _ hl).mono ?_; rw [d1]; rintro e w' ⟨rfl, rfl⟩
      go_wp2_with fail
      refine (awake_any _).mono ?_; rintro e w' ⟨rfl, hw⟩
      go_wp2
      go_ret
      exact ⟨rfl, hw⟩
    · have d0 : decide (raw.length ≤ 600) = false := by simpa using r6
      go_enter Try.func4, Try.ntmps4
      go_wp2_with fail
      refine (short_any _ _ _ _ hl0).mono ?_; rw [d0]; rintro e w' ⟨rfl, rfl⟩
      go_wp2_with fail
      refine (awake_any _).mono ?_; rintro e w' ⟨rfl, hw⟩
      go_wp2
      go_ret
      exact ⟨rfl, hw⟩
end Go.Proofs.Ytahemaondkjpiaa

/-
  A vehicle is removed. Conditions: the list is in memory.
-/
import Derived.Test.YtgafianhlobcfaaRg
import Derived.Lib.AppendZeros
namespace Go.Proofs.Ytgafianhlobcfaa
open Go.ChangeShapes Go.WideShapes Go.RowKit
set_option linter.unusedVariables false

theorem row_base {w : World} {base base' : Nat} {e : TypeId} {size : Nat} {v : Value} {n : Nat} {xs : List Value} (h : w.ownsRow base e size v n xs) (hb : base' ≤ base) : w.ownsRow base' e size v n xs := by
  obtain ⟨hl, h0 | ⟨g, cap, cur, rfl, hg, hr⟩⟩ := h
  · exact ⟨hl, .inl h0⟩
  · exact ⟨hl, .inr ⟨g, cap, cur, rfl, by omega, hr⟩⟩
set_option maxHeartbeats 1000000 in
theorem grow_any (n : Nat) (w : World) (hn : n ≤ 1000000) :
    Calls Try.prog 31 #[.slice none 0 0, .int .i64 n] w fun e w' => ∃ v, e = .returned v ∧ Below w.heap.size w w' ∧ w'.ownsRow w.heap.size 25 2 v 0 [] := by
  by_cases h0 : 0 < n
  · obtain ⟨i, hi, hz, hsz, hby⟩ := info_parts ve_info
    have hr := fun ty => Lib.run_append_nil_zeros (P := Try.prog) w 22 3 ty 25 i _ .i64 .i64 Try.underlying22 Try.underlying3 hi hz n h0 (by omega) (by omega) (by rw [hby]; omega)
    have hc1 := grownCap_ge w n 0 25
    have hc2 := grownCap_le_maxLen w n 0 25 (by unfold maxLen; omega)
    generalize hC : grownCap w n 0 25 = C at *
    have hsC : (Builtin.zeroCells (Value.agg #[.int .i64 0, .int .i64 0]).cells n ++ Builtin.zeroCells (Value.agg #[.int .i64 0, .int .i64 0]).cells (C - n)).size = C * 2 := by
      rw [Array.size_append, size_zeroCells, size_zeroCells, show ((Value.agg #[.int .i64 0, .int .i64 0]).cells).size = 2 from rfl]; omega
    generalize Builtin.zeroCells (Value.agg #[.int .i64 0, .int .i64 0]).cells n ++ Builtin.zeroCells (Value.agg #[.int .i64 0, .int .i64 0]).cells (C - n) = ZZ at *
    have hb := lat_alloc (below_drewN (Below.refl w.heap.size w) (n := 1)) (.cells ZZ 25)
    have hrow : (w.drew.alloc (.cells ZZ 25)).ownsRow w.heap.size 25 2 (.slice (some ⟨w.heap.size, 0, none⟩) 0 C) 0 [] :=
      ⟨rfl, .inr ⟨w.heap.size, C, ZZ, rfl, Nat.le_refl _, Blk.new (w := w.drew), by omega, hc2, hsC, by simp⟩⟩
    have HC : (0 : Int) ≤ (C : Int) := by omega
    have hw : IntKind.i64.wrap (n : Int) = n := by rw [IntKind.wrap_i64]; omega
    clear hi hz hsz hby hC
    go_enter Try.func31, Try.ntmps31
    go_wp2_with (at_builtin; refine Lib.wpList_append_run _ rfl _ _ _ _ rfl _ _ rfl rfl _ _ (hr _) ?_)
    go_ret
    exact ⟨_, rfl, hb, hrow⟩
  · obtain rfl : n = 0 := by omega
    go_enter Try.func31, Try.ntmps31
    go_wp2
    go_ret
    exact ⟨_, rfl, Below.refl _ _, row_nil⟩
theorem grow_c (n : Nat) (m : Int) (hm : m = n) (w : World) (hn : n ≤ 1000000) :
    Calls Try.prog 31 #[.slice none 0 0, .int .i64 m] w fun e w' => ∃ v, e = .returned v ∧ Below w.heap.size w w' ∧ w'.ownsRow w.heap.size 25 2 v 0 [] := by
  subst hm; exact grow_any n w hn
set_option maxRecDepth 20000 in
set_option maxHeartbeats 2000000 in
theorem concat_any (g : Nat) (a1 a2 : Addr) (c1 c2 : Nat) (V1 V2 : List Ve) (n1 n2 : Nat) (w : World) (h1 : V1.length = n1) (h2 : V2.length = n2) (hl : n1 + n2 ≤ 1000000) (hB : Blk w g 22 #[.slice (some a1) n1 c1, .slice (some a2) n2 c2])
    (hs1 : ∀ w', Below w.heap.size w w' → ∀ j u, (V1.flatMap Ve.cells)[j]? = some u → w'.cell? (a1.add j) = some u) (hs2 : ∀ w', Below w.heap.size w w' → ∀ j u, (V2.flatMap Ve.cells)[j]? = some u → w'.cell? (a2.add j) = some u) :
    Calls Try.prog 28 #[.slice (some ⟨g, 0, none⟩) 2 2] w fun e w' => ∃ v, e = .returned v ∧ Below w.heap.size w w' ∧ w'.ownsRow w.heap.size 25 2 v (n1 + n2) ((V1 ++ V2).flatMap Ve.cells) := by
  have l1 : (V1.flatMap Ve.cells).length = n1 * 2 := by rw [flat_len Ve.cells 2 (fun _ => rfl), h1]
  have l2 : (V2.flatMap Ve.cells).length = n2 * 2 := by rw [flat_len Ve.cells 2 (fun _ => rfl), h2]
  have hp0 : 0 ≤ (n1 : Int) := by omega
  clear h1 h2
  go_enter Try.func28, Try.ntmps28
  go_wp2
  go_loopw [3, 11] (fun s i wr => ∃ k : Nat, k ≤ 2 ∧ i = .int .i64 k ∧ s = .int .i64 (if k = 0 then 0 else if k = 1 then n1 else n1 + n2 : Nat) ∧ w = wr) (fun _ i _ => 2 - (intOf i).toNat)
  case atStart => exact ⟨0, by omega, rfl, rfl, rfl⟩
  case round =>
    obtain ⟨k, hk, rfl, rfl, hW⟩ := hrel
    subst hW
    have hc : k = 0 ∨ k = 1 ∨ k = 2 := by omega
    have q0 := hB.at 0 rfl
    have q1 := hB.at 1 rfl
    rcases hc with rfl | rfl | rfl
    · go_wp2
      go_roundw
      case rel => exact ⟨1, by omega, rfl, by simp, trivial⟩
      case measure => simp [intOf]
    · have hwn : IntKind.i64.wrap ((n1 : Int) + (n2 : Int)) = (n1 : Int) + (n2 : Int) := by rw [IntKind.wrap_i64]; omega
      go_wp2
      go_roundw
      case rel => exact ⟨2, by omega, rfl, by simp, trivial⟩
      case measure => simp [intOf]
    · clear q0 q1
      simp only [show ¬ (2 = 0) by omega, show ¬ (2 = 1) by omega, if_false]
      go_wp2_with fail
      refine (grow_c (n1 + n2) _ (by omega) w hl).mono ?_
      rintro e w2 ⟨v0, rfl, hb2, ho2⟩
      obtain ⟨i0, hi, hz, hz1, hz2⟩ := info_parts ve_info
      go_wp2_with fail
      go_loopw [6, 27] (fun v i wr => ∃ k : Nat, k ≤ 2 ∧ i = .int .i64 k ∧ Below w.heap.size w wr ∧ wr.ownsRow w.heap.size 25 2 v (if k = 0 then 0 else if k = 1 then n1 else n1 + n2) (if k = 0 then [] else if k = 1 then V1.flatMap Ve.cells else (V1 ++ V2).flatMap Ve.cells)) (fun _ i _ => 2 - (intOf i).toNat)
      case atStart => exact ⟨0, by omega, rfl, hb2, ho2⟩
      case round =>
        obtain ⟨k, hk, rfl, hbr, own⟩ := hrel
        have hBr := hB.below hbr
        have q0 := hBr.at 0 rfl
        have q1 := hBr.at 1 rfl
        have hsr := hbr.size
        have hc : k = 0 ∨ k = 1 ∨ k = 2 := by omega
        rcases hc with rfl | rfl | rfl
        · have own : wr.ownsRow w.heap.size 25 2 u6 0 [] := own
          go_wp2_with (at_builtin; refine wpList_append_own_at _ rfl (.tmp 31) (.tmp 32) _ rfl w.heap.size 25 i0 _ 2 16 Try.underlying22 hi hz hz1 hz2 rfl (by omega) u6 0 [] rfl own a1 n1 c1 (V1.flatMap Ve.cells) rfl l1 (hs1 wr hbr) (flat_one V1) (by unfold maxLen; omega) (by omega) hsr ?_; intro v' w' own' hg9 _ hat; have hb9 := hbr.grown hg9 hsr (fun k e => (row_lt own e).1))
          go_roundw
          case rel => exact ⟨1, by omega, rfl, hb9, by simpa using own'⟩
          case measure => simp [intOf]
        · have own : wr.ownsRow w.heap.size 25 2 u6 n1 (V1.flatMap Ve.cells) := own
          go_wp2_with (at_builtin; refine wpList_append_own_at _ rfl (.tmp 31) (.tmp 32) _ rfl w.heap.size 25 i0 _ 2 16 Try.underlying22 hi hz hz1 hz2 rfl (by omega) u6 n1 _ rfl own a2 n2 c2 (V2.flatMap Ve.cells) rfl l2 (hs2 wr hbr) (flat_one V2) (by unfold maxLen; omega) (by omega) hsr ?_; intro v' w' own' hg9 _ hat; have hb9 := hbr.grown hg9 hsr (fun k e => (row_lt own e).1))
          go_roundw
          case rel => exact ⟨2, by omega, rfl, hb9, by simpa using own'⟩
          case measure => simp [intOf]
        · have own : wr.ownsRow w.heap.size 25 2 u6 (n1 + n2) ((V1 ++ V2).flatMap Ve.cells) := own
          clear q0 q1
          go_wp2
          go_ret
          exact ⟨_, rfl, hbr, own⟩

/-- The error of a removal. -/
def remE (V : List Ve) (id : Int) : Int := if validB V = false then 1 else if idxF id V 0 < 0 then 12 else 0
def remV (V : List Ve) (id : Int) : List Ve := V.take (idxF id V 0).toNat ++ V.drop ((idxF id V 0).toNat + 1)
theorem idxF_bd (id : Int) : ∀ (V : List Ve) (k : Nat), -1 ≤ idxF id V k ∧ idxF id V k < k + V.length ∧ (0 ≤ idxF id V k → (k : Int) ≤ idxF id V k)
  | [], k => by simp [idxF]; omega
  | x :: V, k => by
    have := idxF_bd id V (k + 1)
    simp only [idxF, List.length_cons]
    split <;> omega
set_option maxRecDepth 20000 in
set_option maxHeartbeats 2000000 in
theorem remove_any (A : Option Addr) (c : Nat) (V : List Ve) (id : Int) (w : World) (hs : Vs w w.heap.size A V) (hw : VeW V) (hl : V.length ≤ 9223372036854775807) (hlc : V.length ≤ c) (hcm : c ≤ 9223372036854775807) :
    Calls Try.prog 19 #[.slice A V.length c, .int .i64 id] w fun e w' => ∃ s, e = .returned (.tuple #[s, .int .i64 (remE V id)]) ∧ Below w.heap.size w w' ∧
      (remE V id = 0 → w'.ownsRow w.heap.size 25 2 s (V.length - 1) ((remV V id).flatMap Ve.cells)) ∧ (remE V id ≠ 0 → s = .slice none 0 0) := by
  go_enter Try.func19, Try.ntmps19
  go_wp2_with fail
  generalize hvb : validB V = bv
  refine (valid_c A c V w hs hw hl hvb).mono ?_
  rintro e w1 ⟨rfl, hb1⟩
  have hs1 := hs.grow hb1
  cases bv with
  | false =>
    have HE : Hid (remE V id = 1) := Lib.hid (by simp [remE, hvb])
    clear hvb
    go_wp2
    go_ret2
    exact ⟨_, (by rw [HE.out]; rfl), hb1, fun h => absurd h (by rw [HE.out]; omega), fun _ => rfl⟩
  | true =>
    have hl8 := validB_len hvb
    have HV := Lib.hid hvb
    clear hvb
    go_wp2_with fail
    have hbd := idxF_bd id V 0
    generalize hix : idxF id V 0 = ix at hbd
    refine (index_c A c V id w1 hs1 hl hix).mono ?_
    rintro e w2 ⟨rfl, hb2⟩
    have hbz := hb1.trans (hb2.mono hb1.size)
    have hs2 := hs1.grow hb2
    by_cases q : ix < 0
    · have HE : Hid (remE V id = 12) := Lib.hid (by unfold remE; rw [if_neg (by rw [HV.out]; decide), hix, if_pos q])
      clear hix
      go_wp2
      go_ret2
      exact ⟨_, (by rw [HE.out]; rfl), hbz, fun h => absurd h (by rw [HE.out]; omega), fun _ => rfl⟩
    · obtain ⟨k, rfl⟩ := Int.eq_ofNat_of_zero_le (show 0 ≤ ix by omega)
      have hkl : k < V.length := by omega
      have HE : Hid (remE V id = 0) := Lib.hid (by unfold remE; rw [if_neg (by rw [HV.out]; decide), hix, if_neg q])
      have HK : Hid (remV V id = V.take k ++ V.drop (k + 1)) := Lib.hid (by unfold remV; rw [hix]; rfl)
      clear hix hbd q
      obtain ⟨b, off, hA, _⟩ := hs2.at hkl
      subst hA
      obtain ⟨B0, HB⟩ : ∃ B0, B0 = w.heap.size := ⟨_, rfl⟩
      have HB0 : B0 ≤ w2.heap.size := by rw [HB]; exact hbz.size
      have hz : decide ((k : Int) < 0) = false := by simp
      go_wp2_with fail
      refine wp_region_pre (R := Bl) 11 24 [fun v _ => v = (.slice (some ⟨b, off, none⟩) V.length c), fun v _ => v = .int .i64 k, fun v _ => v = .slice (some ⟨b, off, none⟩) k c, fun v _ => v = (.slice (some ⟨b, off, none⟩) V.length c), fun v _ => v = .int .i64 k, fun v _ => v = .int .i64 ((k : Int) + 1), fun v w => ∃ ad : Addr, v = .slice (some ad) (V.length - (k + 1)) (c - (k + 1)) ∧ (k + 1 < V.length → ad = ⟨b, off + (k + 1) * 2, none⟩), fun v w => ∃ (bb : Nat) (ad : Addr), v = .slice (some ⟨bb, 0, none⟩) 2 2 ∧ (k + 1 < V.length → ad = ⟨b, off + (k + 1) * 2, none⟩) ∧ Blk w bb 22 #[.slice (some ⟨b, off, none⟩) k c, .slice (some ad) (V.length - (k + 1)) (c - (k + 1))], fun v w => World.ownsRow w B0 25 2 (v) (V.length - 1) ((V.take k ++ V.drop (k + 1)).flatMap Ve.cells), fun v w => World.ownsRow w B0 25 2 (v) (V.length - 1) ((V.take k ++ V.drop (k + 1)).flatMap Ve.cells), fun v _ => v = .int .i64 0] (Bl.trans) (Bl.drew) (by kernel_rfl) (fun _ _ d _ _ h => by cases d <;> exact h) rfl (by kernel_rfl) (stay_cons (stays_v _) (stay_cons (stays_v _) (stay_cons (stays_v _) (stay_cons (stays_v _) (stay_cons (stays_v _) (stay_cons (stays_v _) (stay_cons (fun v _ _ h _ => h) (stay_cons (fun v w w1 h hb => by obtain ⟨b1, a1, h1, h2, h3⟩ := h; exact ⟨b1, a1, h1, h2, h3.below hb⟩) (stay_cons (fun v w w1 h hb => row_block h (fun g _ h2 _ => hb.block g h2)) (stay_cons (fun v w w1 h hb => row_block h (fun g _ h2 _ => hb.block g h2)) (stay_cons (stays_v _) (stay_nil)))))))))))) ?_ ?_
      · simp only [List.take_succ_cons, List.take_zero]
        refine steps_cons (Bl.refl) (fun ev xw hb hc hf hfr hd hr => ?_) ?_
        · have e0 : ev (.tmp 0) = (.slice (some ⟨b, off, none⟩) V.length c) := hfr 0 (by kernel_rfl)
          clear hfr hd
          show OpOk _ _ ev xw fun v w' => Bl xw w' ∧ (v = (.slice (some ⟨b, off, none⟩) V.length c))
          refine opOk_hid (fun Rp HR => ?_)
          unfold OpOk
          go_simp
          rw [HR.out]
          exact ⟨hr, rfl⟩
        refine steps_cons (Bl.refl) (fun ev xw hb hc hf hfr hd hr => ?_) ?_
        · have e6 : ev (.tmp 6) = .int .i64 k := hfr 6 (by kernel_rfl)
          clear hfr hd
          show OpOk _ _ ev xw fun v w' => Bl xw w' ∧ (v = .int .i64 k)
          refine opOk_hid (fun Rp HR => ?_)
          unfold OpOk
          go_simp
          rw [HR.out]
          exact ⟨hr, rfl⟩
        refine steps_cons (Bl.refl) (fun ev xw hb hc hf hfr hd hr => ?_) ?_
        · have e15 : ev (.tmp 15) = (.slice (some ⟨b, off, none⟩) V.length c) := hd 0 15 (by kernel_rfl)
          have e16 : ev (.tmp 16) = .int .i64 k := hd 1 16 (by kernel_rfl)
          clear hfr hd
          have hkc : k ≤ c := by omega
          show OpOk _ _ ev xw fun v w' => Bl xw w' ∧ (v = .slice (some ⟨b, off, none⟩) k c)
          refine opOk_hid (fun Rp HR => ?_)
          unfold OpOk
          go_simp
          rw [HR.out]
          exact ⟨hr, rfl⟩
        refine steps_cons (Bl.refl) (fun ev xw hb hc hf hfr hd hr => ?_) ?_
        · have e0 : ev (.tmp 0) = (.slice (some ⟨b, off, none⟩) V.length c) := hfr 0 (by kernel_rfl)
          clear hfr hd
          show OpOk _ _ ev xw fun v w' => Bl xw w' ∧ (v = (.slice (some ⟨b, off, none⟩) V.length c))
          refine opOk_hid (fun Rp HR => ?_)
          unfold OpOk
          go_simp
          rw [HR.out]
          exact ⟨hr, rfl⟩
        refine steps_cons (Bl.refl) (fun ev xw hb hc hf hfr hd hr => ?_) ?_
        · have e6 : ev (.tmp 6) = .int .i64 k := hfr 6 (by kernel_rfl)
          clear hfr hd
          show OpOk _ _ ev xw fun v w' => Bl xw w' ∧ (v = .int .i64 k)
          refine opOk_hid (fun Rp HR => ?_)
          unfold OpOk
          go_simp
          rw [HR.out]
          exact ⟨hr, rfl⟩
        refine steps_cons (Bl.refl) (fun ev xw hb hc hf hfr hd hr => ?_) ?_
        · have e19 : ev (.tmp 19) = .int .i64 k := hd 4 19 (by kernel_rfl)
          clear hfr hd
          have hwq : IntKind.i64.wrap ((k : Int) + 1) = (k : Int) + 1 := by rw [IntKind.wrap_i64]; omega
          show OpOk _ _ ev xw fun v w' => Bl xw w' ∧ (v = .int .i64 ((k : Int) + 1))
          refine opOk_hid (fun Rp HR => ?_)
          unfold OpOk
          go_simp
          rw [HR.out]
          exact ⟨hr, rfl⟩
        refine steps_cons (Bl.refl) (fun ev xw hb hc hf hfr hd hr => ?_) ?_
        · have e18 : ev (.tmp 18) = (.slice (some ⟨b, off, none⟩) V.length c) := hd 3 18 (by kernel_rfl)
          have e20 : ev (.tmp 20) = .int .i64 ((k : Int) + 1) := hd 5 20 (by kernel_rfl)
          clear hfr hd
          have hkc : k + 1 ≤ V.length := by omega
          have hkc1 : (k : Int) + 1 ≤ (V.length : Int) := by omega
          have hkc2 : 0 ≤ (k : Int) + 1 := by omega
          show OpOk _ _ ev xw fun v w' => Bl xw w' ∧ (∃ ad : Addr, v = .slice (some ad) (V.length - (k + 1)) (c - (k + 1)) ∧ (k + 1 < V.length → ad = ⟨b, off + (k + 1) * 2, none⟩))
          refine opOk_hid (fun Rp HR => ?_)
          unfold OpOk
          go_simp
          rw [HR.out]
          by_cases hck : c = k + 1
          · rw [if_pos (by omega)]
            exact ⟨hr, _, rfl, fun h => by omega⟩
          · rw [if_neg (by omega)]
            exact ⟨hr, _, rfl, fun _ => rfl⟩
        refine steps_cons (Bl.refl) (fun ev xw hb hc hf hfr hd hr => ?_) ?_
        · have e17 : ev (.tmp 17) = .slice (some ⟨b, off, none⟩) k c := hd 2 17 (by kernel_rfl)
          obtain ⟨d21, e21, z21⟩ : ∃ ad : Addr, ev (.tmp 21) = .slice (some ad) (V.length - (k + 1)) (c - (k + 1)) ∧ (k + 1 < V.length → ad = ⟨b, off + (k + 1) * 2, none⟩) := hd 6 21 (by kernel_rfl)
          clear hfr hd
          show OpOk _ _ ev xw fun v w' => Bl xw w' ∧ (∃ (bb : Nat) (ad : Addr), v = .slice (some ⟨bb, 0, none⟩) 2 2 ∧ (k + 1 < V.length → ad = ⟨b, off + (k + 1) * 2, none⟩) ∧ Blk w' bb 22 #[.slice (some ⟨b, off, none⟩) k c, .slice (some ad) (V.length - (k + 1)) (c - (k + 1))])
          refine opOk_hid (fun Rp HR => ?_)
          unfold OpOk
          go_simp
          rw [HR.out]
          exact ⟨lat_alloc (Below.refl _ _) _, _, _, rfl, z21, Blk.new⟩
        refine steps_cons (Bl.refl) (fun ev xw hb hc hf hfr hd hr => ?_) ?_
        · obtain ⟨b22, a22, e22, z22, B22⟩ : ∃ (bb : Nat) (ad : Addr), ev (.tmp 22) = .slice (some ⟨bb, 0, none⟩) 2 2 ∧ (k + 1 < V.length → ad = ⟨b, off + (k + 1) * 2, none⟩) ∧ Blk xw bb 22 #[.slice (some ⟨b, off, none⟩) k c, .slice (some ad) (V.length - (k + 1)) (c - (k + 1))] := hd 7 22 (by kernel_rfl)
          clear hfr hd
          show OpOk _ _ ev xw fun v w' => Bl xw w' ∧ (World.ownsRow w' B0 25 2 (v) (V.length - 1) ((V.take k ++ V.drop (k + 1)).flatMap Ve.cells))
          refine opOk_hid (fun Rp HR => ?_)
          unfold OpOk
          go_simp
          have hsx := hs2.grow hb
          have hsz := hb.size
          refine (concat_any b22 ⟨b, off, none⟩ a22 c (c - (k + 1)) (V.take k) (V.drop (k + 1)) k (V.length - (k + 1)) xw (by rw [List.length_take]; omega) (by rw [List.length_drop]) (by omega) B22 (fun w9 hb9 j u hj => ?_) (fun w9 hb9 j u hj => ?_)).mono ?_
          · exact (take_src ((hsx.grow hb9) (by omega)) rfl k j u hj)
          · by_cases hk1 : k + 1 < V.length
            · rw [z22 hk1]; exact vs_src ((hsx.grow hb9) (by omega)) rfl (k + 1) j u hj
            · rw [List.drop_eq_nil_of_le (by omega)] at hj; simp at hj
          rintro e w'' ⟨v, rfl, hw, ho⟩
          refine ⟨_, rfl, ?_⟩
          rw [HR.out]
          refine ⟨hw, ?_⟩
          have ho2 := row_base ho (show B0 ≤ xw.heap.size by omega)
          rw [show k + (V.length - (k + 1)) = V.length - 1 by omega] at ho2
          exact ho2
        refine steps_cons (Bl.refl) (fun ev xw hb hc hf hfr hd hr => ?_) ?_
        · obtain o23 : World.ownsRow xw B0 25 2 (ev (.tmp 23)) (V.length - 1) ((V.take k ++ V.drop (k + 1)).flatMap Ve.cells) := hd 8 23 (by kernel_rfl)
          clear hfr hd
          show OpOk _ _ ev xw fun v w' => Bl xw w' ∧ (World.ownsRow w' B0 25 2 (v) (V.length - 1) ((V.take k ++ V.drop (k + 1)).flatMap Ve.cells))
          refine opOk_hid (fun Rp HR => ?_)
          unfold OpOk
          go_simp
          rw [HR.out]
          exact ⟨hr, o23⟩
        refine steps_cons (Bl.refl) (fun ev xw hb hc hf hfr hd hr => ?_) ?_
        · clear hfr hd
          show OpOk _ _ ev xw fun v w' => Bl xw w' ∧ (v = .int .i64 0)
          refine opOk_hid (fun Rp HR => ?_)
          unfold OpOk
          go_simp
          rw [HR.out]
          exact ⟨hr, rfl⟩
        exact steps_nil
      · intro vs W5 hb5 hk5
        have k4 : W5.ownsRow B0 25 2 (vs 9) (V.length - 1) ((V.take k ++ V.drop (k + 1)).flatMap Ve.cells) := hk5 9 (by omega)
        have k5 : vs 10 = .int .i64 0 := hk5 10 (by omega)
        clear hk5
        simp only [List.take_succ_cons, List.take_zero, List.drop_succ_cons, List.drop_zero, putAll, Act.put, List.setIfInBounds_toArray, List.set_cons_zero, List.set_cons_succ, k5, Nat.reduceAdd, Nat.reduceSub]
        generalize vs 9 = s at *
        go_wp2
        go_ret2
        exact ⟨s, (by rw [HE.out]; rfl), hbz.trans (Below.mono hb5 hbz.size), fun _ => by rw [HK.out]; exact HB ▸ k4, fun h => absurd HE.out h⟩

end Go.Proofs.Ytgafianhlobcfaa

/-
  The claim that goes ahead of all. Conditions: the numbers are small.
-/
import Derived.Test.YtikffoepndpfjaaRl
import Derived.Test.YtikffoepndpfjaaSv
namespace Go.Proofs.Ytikffoepndpfjaa
open Go.ChangeShapes Go.WideShapes Go.RowKit
set_option linter.unusedVariables false

structure Cl where
  (ag id ph cl si : Int)
def clAt (C : List Cl) (i : Nat) : Cl := C.getD i ⟨0, 0, 0, 0, 0⟩
def Cl.val (x : Cl) : Value := .agg #[.int .i64 x.ag, .int .i64 x.id, .int .i64 x.ph, .int .i64 x.cl, .int .i64 x.si]
structure ClOk (x : Cl) : Prop where
  ph : 0 ≤ x.ph ∧ x.ph ≤ 1000
  cl : 0 ≤ x.cl ∧ x.cl ≤ 3
  si : 0 ≤ x.si ∧ x.si ≤ 10000
def AllOk (C : List Cl) : Prop := ∀ x ∈ C, ClOk x
theorem clAt_mem {C : List Cl} {i : Nat} (h : i < C.length) : clAt C i ∈ C := by
  have : clAt C i = C[i] := by simp [clAt, h]
  rw [this]; exact List.getElem_mem h
/-- The claim x lies at offset o of block b. -/
def ClHere (w : World) (b o : Nat) (x : Cl) : Prop :=
  w.cell? ⟨b, o, none⟩ = some (.int .i64 x.ag) ∧ w.cell? ⟨b, o + 1, none⟩ = some (.int .i64 x.id) ∧ w.cell? ⟨b, o + 2, none⟩ = some (.int .i64 x.ph) ∧ w.cell? ⟨b, o + 3, none⟩ = some (.int .i64 x.cl) ∧ w.cell? ⟨b, o + 4, none⟩ = some (.int .i64 x.si)
/-- A slice of claims, below block B. -/
def Cls (w : World) (B : Nat) (A : Option Addr) (C : List Cl) : Prop :=
  0 < C.length → ∃ b off, A = some ⟨b, off, none⟩ ∧ b < B ∧ ∀ i, i < C.length → ClHere w b (off + i * 5) (clAt C i)
theorem ClHere.below {w w' : World} {B b o : Nat} {x : Cl} (h : ClHere w b o x) (hb : Below B w w') (hB : b < B) : ClHere w' b o x :=
  ⟨(hb.cell (p := ⟨b, o, none⟩) hB).trans h.1, (hb.cell (p := ⟨b, o + 1, none⟩) hB).trans h.2.1, (hb.cell (p := ⟨b, o + 2, none⟩) hB).trans h.2.2.1, (hb.cell (p := ⟨b, o + 3, none⟩) hB).trans h.2.2.2.1, (hb.cell (p := ⟨b, o + 4, none⟩) hB).trans h.2.2.2.2⟩
theorem ClHere.later {w : World} {b o : Nat} {x : Cl} (h : ClHere w b o x) (hB : b < w.heap.size) :
    (∀ w', Below w.heap.size w w' → w'.cell? ⟨b, o, none⟩ = some (.int .i64 x.ag)) ∧ (∀ w', Below w.heap.size w w' → w'.cell? ⟨b, o + 1, none⟩ = some (.int .i64 x.id)) ∧ (∀ w', Below w.heap.size w w' → w'.cell? ⟨b, o + 2, none⟩ = some (.int .i64 x.ph)) ∧
    (∀ w', Below w.heap.size w w' → w'.cell? ⟨b, o + 3, none⟩ = some (.int .i64 x.cl)) ∧ (∀ w', Below w.heap.size w w' → w'.cell? ⟨b, o + 4, none⟩ = some (.int .i64 x.si)) :=
  ⟨fun _ hb => (h.below hb hB).1, fun _ hb => (h.below hb hB).2.1, fun _ hb => (h.below hb hB).2.2.1, fun _ hb => (h.below hb hB).2.2.2.1, fun _ hb => (h.below hb hB).2.2.2.2⟩
theorem Cls.grow {w w' : World} {A : Option Addr} {C : List Cl} (h : Cls w w.heap.size A C) (hb : Below w.heap.size w w') : Cls w' w'.heap.size A C := fun h0 => by
  obtain ⟨b, off, hA, hB, hc⟩ := h h0
  exact ⟨b, off, hA, Nat.lt_of_lt_of_le hB hb.size, fun i hi => (hc i hi).below hb hB⟩
theorem Cls.at {w : World} {B : Nat} {A : Option Addr} {C : List Cl} (h : Cls w B A C) {i : Nat} (hi : i < C.length) : ∃ b off, A = some ⟨b, off, none⟩ ∧ b < B ∧ ClHere w b (off + i * 5) (clAt C i) := by
  obtain ⟨b, off, hA, hB, hc⟩ := h (by omega)
  exact ⟨b, off, hA, hB, hc i hi⟩
def keyC (per cap : Int) (l : List Int) (now : Int) (x : Cl) : List Int := keyL per cap l x.ag x.id x.ph x.cl x.si now
def lessC (per cap : Int) (l : List Int) (now : Int) (x y : Cl) : Bool := lexB (keyC per cap l now x) (keyC per cap l now y)
def lockC (lock : Int) (l : List Int) (now : Int) (x : Cl) : Bool := lockB lock l x.ph x.cl now
def bestK (per cap lock : Int) (l : List Int) (now : Int) (C : List Cl) : Nat → Int
  | 0 => -1
  | k + 1 => if lockC lock l now (clAt C k) then bestK per cap lock l now C k else if bestK per cap lock l now C k < 0 then k else if lessC per cap l now (clAt C k) (clAt C (bestK per cap lock l now C k).toNat) then k else bestK per cap lock l now C k
theorem bestK_bd (per cap lock : Int) (l : List Int) (now : Int) (C : List Cl) : ∀ k : Nat, -1 ≤ bestK per cap lock l now C k ∧ bestK per cap lock l now C k < k
  | 0 => by simp [bestK]
  | k + 1 => by
    have := bestK_bd per cap lock l now C k
    unfold bestK
    split
    · omega
    · split
      · omega
      · split <;> omega
theorem less_c (per cap hold lock sp sg : Int) (A : Option Addr) (c n : Nat) (l : List Int) (now : Int) (x y : Cl) (w : World) (hn : l.length = n) (hs : Ints .i64 w w.heap.size A l) (hl : n ≤ 1000000) (hS : Small l) (hper : 1 ≤ per ∧ per ≤ 10000) (hcap : 0 ≤ cap ∧ cap ≤ 1000) (hlock : 0 ≤ lock ∧ lock ≤ 1000) (hnow : 0 ≤ now ∧ now ≤ 10000) (hx : ClOk x) (hy : ClOk y) {b : Bool} (hb : lessC per cap l now x y = b) :
    Calls Try.prog 39 #[.agg #[.slice none 0 0, .slice none 0 0, .int .i64 per, .int .i64 cap, .int .i64 hold, .int .i64 lock], .agg #[.int .i64 sp, .int .i64 sg, .slice A n c], .int .i64 now, .agg #[.int .i64 x.ag, .int .i64 x.id, .int .i64 x.ph, .int .i64 x.cl, .int .i64 x.si], .agg #[.int .i64 y.ag, .int .i64 y.id, .int .i64 y.ph, .int .i64 y.cl, .int .i64 y.si]] w fun e w' =>
      e = .returned (.bool b) ∧ Below w.heap.size w w' := by
  rw [← hb]
  exact less_any per cap hold lock sp sg A c n l now x.ag x.id x.ph x.cl x.si y.ag y.id y.ph y.cl y.si w hn hs hl hS hper hcap hlock hnow hx.ph hx.cl hx.si hy.ph hy.cl hy.si
theorem lock_c (per cap hold lock sp sg : Int) (A : Option Addr) (c n : Nat) (l : List Int) (now : Int) (x : Cl) (w : World) (hn : l.length = n) (hs : Ints .i64 w w.heap.size A l) (hl : n ≤ 1000000) (hS : Small l) (hlock : 0 ≤ lock ∧ lock ≤ 1000) (hnow : 0 ≤ now ∧ now ≤ 10000) (hx : ClOk x) {b : Bool} (hb : lockC lock l now x = b) :
    Calls Try.prog 38 #[.agg #[.slice none 0 0, .slice none 0 0, .int .i64 per, .int .i64 cap, .int .i64 hold, .int .i64 lock], .agg #[.int .i64 sp, .int .i64 sg, .slice A n c], .agg #[.int .i64 x.ag, .int .i64 x.id, .int .i64 x.ph, .int .i64 x.cl, .int .i64 x.si], .int .i64 now] w fun e w' =>
      e = .returned (.bool b) ∧ Below w.heap.size w w' := by
  rw [← hb]
  exact locked_any per cap hold lock sp sg A c n l x.ag x.id x.ph x.cl x.si now w hn hs hl hS hlock hx.ph hnow
set_option maxRecDepth 20000 in
set_option maxHeartbeats 2000000 in
theorem best_any (per cap hold lock sp sg : Int) (A : Option Addr) (c n : Nat) (l : List Int) (now : Int) (D : Option Addr) (d m : Nat) (C : List Cl) (w : World) (hn : l.length = n) (hs : Ints .i64 w w.heap.size A l) (hl : n ≤ 1000000) (hS : Small l) (hper : 1 ≤ per ∧ per ≤ 10000) (hcap : 0 ≤ cap ∧ cap ≤ 1000) (hlock : 0 ≤ lock ∧ lock ≤ 1000) (hnow : 0 ≤ now ∧ now ≤ 10000) (hm : C.length = m) (hC : Cls w w.heap.size D C) (hok : AllOk C) (hml : m ≤ 1000000) :
    Calls Try.prog 31 #[.agg #[.slice none 0 0, .slice none 0 0, .int .i64 per, .int .i64 cap, .int .i64 hold, .int .i64 lock], .agg #[.int .i64 sp, .int .i64 sg, .slice A n c], .int .i64 now, .slice D m d] w fun e w' => e = .returned (.int .i64 (bestK per cap lock l now C C.length)) ∧ Below w.heap.size w w' := by
  subst hm
  have bW := lat_alloc (lat_alloc (Below.refl w.heap.size w) (.cells #[.slice none 0 0, .slice none 0 0, .int .i64 per, .int .i64 cap, .int .i64 hold, .int .i64 lock] 33)) (.cells #[.int .i64 sp, .int .i64 sg, .slice A n c] 24)
  have B0 := Blk.alloc (Blk.new (w := w) (t := 33) (cs := #[.slice none 0 0, .slice none 0 0, .int .i64 per, .int .i64 cap, .int .i64 hold, .int .i64 lock])) (.cells #[.int .i64 sp, .int .i64 sg, .slice A n c] 24)
  have B1 := Blk.new (w := w.alloc (.cells #[.slice none 0 0, .slice none 0 0, .int .i64 per, .int .i64 cap, .int .i64 hold, .int .i64 lock] 33)) (t := 24) (cs := #[.int .i64 sp, .int .i64 sg, .slice A n c])
  rw [heap_size] at B1
  have hI := (hs.below bW).more bW.size
  have hD : Cls ((w.alloc (.cells #[.slice none 0 0, .slice none 0 0, .int .i64 per, .int .i64 cap, .int .i64 hold, .int .i64 lock] 33)).alloc (.cells #[.int .i64 sp, .int .i64 sg, .slice A n c] 24)) ((w.alloc (.cells #[.slice none 0 0, .slice none 0 0, .int .i64 per, .int .i64 cap, .int .i64 hold, .int .i64 lock] 33)).alloc (.cells #[.int .i64 sp, .int .i64 sg, .slice A n c] 24)).heap.size D C := hC.grow bW
  go_enter Try.func31, Try.ntmps31
  go_wp2
  generalize (w.alloc (.cells #[.slice none 0 0, .slice none 0 0, .int .i64 per, .int .i64 cap, .int .i64 hold, .int .i64 lock] 33)).alloc (.cells #[.int .i64 sp, .int .i64 sg, .slice A n c] 24) = W at *
  generalize w.heap.size + 1 = gS at *
  go_loopw [9, 14] (fun b i wr => ∃ k : Nat, k ≤ C.length ∧ i = .int .i64 k ∧ b = .int .i64 (bestK per cap lock l now C k) ∧ Below W.heap.size W wr) (fun _ i _ => C.length - (intOf i).toNat)
  case atStart => exact ⟨0, by omega, rfl, rfl, Below.refl _ _⟩
  case round =>
    obtain ⟨k, hk, rfl, rfl, hbr⟩ := hrel
    by_cases hlt : k < C.length
    · obtain ⟨b, off, rfl, hB, h0, h1, h2, h3, h4⟩ := (hD.grow hbr).at hlt
      have hx := hok _ (clAt_mem hlt)
      have hbk := bestK_bd per cap lock l now C k
      have hbest := bestK.eq_2 per cap lock l now C k
      have HBEST := Lib.hid hbest
      clear hbest
      have d0 := (B0.below hbr)
      have d1 := (B1.below hbr)
      have hE := hD.grow hbr
      have hIr := hI.grow hbr
      have o0 := d0.at 0 rfl
      have o1 := d0.at 1 rfl
      have o2 := d0.at 2 rfl
      have o3 := d0.at 3 rfl
      have o4 := d0.at 4 rfl
      have o5 := d0.at 5 rfl
      have p0 := d1.at 0 rfl
      have p1 := d1.at 1 rfl
      have p2 := d1.at 2 rfl
      have bX := lat_alloc (Below.refl wr.heap.size wr) (.cells #[.int .i64 (clAt C k).ag, .int .i64 (clAt C k).id, .int .i64 (clAt C k).ph, .int .i64 (clAt C k).cl, .int .i64 (clAt C k).si] 47)
      have B2 := Blk.new (w := wr) (t := 47) (cs := #[.int .i64 (clAt C k).ag, .int .i64 (clAt C k).id, .int .i64 (clAt C k).ph, .int .i64 (clAt C k).cl, .int .i64 (clAt C k).si])
      have e0 := d0.below bX
      have e1 := d1.below bX
      have x0 := e0.at 0 rfl
      have x1 := e0.at 1 rfl
      have x2 := e0.at 2 rfl
      have x3 := e0.at 3 rfl
      have x4 := e0.at 4 rfl
      have x5 := e0.at 5 rfl
      have y0 := e1.at 0 rfl
      have y1 := e1.at 1 rfl
      have y2 := e1.at 2 rfl
      have hIX := hIr.grow bX
      have hEX := hE.grow bX
      have hbX := hbr.trans (bX.mono hbr.size)
      cases hlk : lockC lock l now (clAt C k) with
      | true =>
        have HLK := Lib.hid hlk
        have HB1 := Lib.hid (show bestK per cap lock l now C (k + 1) = bestK per cap lock l now C k by rw [HBEST.out, if_pos hlk])
        clear hlk
        go_wp2_with fail
        refine (lock_c per cap hold lock sp sg A c n l now (clAt C k) _ hn hIX hl hS hlock hnow hx HLK.out).mono ?_
        rintro e w1 ⟨rfl, hb1⟩
        go_wp2
        go_roundw
        case rel => exact ⟨k + 1, by omega, by go_num, by rw [HB1.out], hbX.trans (hb1.mono hbX.size)⟩
        case measure => simp [intOf]; omega
      | false =>
        have HLK := Lib.hid hlk
        by_cases hb0 : bestK per cap lock l now C k < 0
        · have HB1 := Lib.hid (show bestK per cap lock l now C (k + 1) = k by rw [HBEST.out, if_neg (by simp [hlk]), if_pos hb0])
          clear hlk
          have hd : decide (bestK per cap lock l now C k < 0) = true := by simpa using hb0
          go_wp2_with fail
          refine (lock_c per cap hold lock sp sg A c n l now (clAt C k) _ hn hIX hl hS hlock hnow hx HLK.out).mono ?_
          rintro e w1 ⟨rfl, hb1⟩
          go_wp2_with fail
          refine wp_region_grow (by kernel_rfl) (by kernel_rfl) ?_
          repeat' (first
              | go_big_quiet_skip
              | (go_big_quiet_want; first
                  | (go_big_quiet_op; go_big_quiet_on)
                  | (refine quiet_det ?_; apply Exists.intro; refine ⟨fun w' hC => ?_, ?_⟩; (go_simp <;> (first | rfl | exact ⟨rfl, rfl⟩)); apply Exists.intro; refine ⟨?_, ?_⟩; (go_simp <;> (first | rfl | exact ⟨rfl, rfl⟩)); go_big_quiet_on)
                  | (show Oper.quiet _ { dst := _, op := .call { callee := .value _, args := _, argTypes := _ }, type := _, pos := _, after := _, guard := _ } _ _ _; refine quiet_call ?_; apply Exists.intro; apply Exists.intro; refine ⟨fun w' hC => ?_, ?_⟩; (go_simp <;> (first | rfl | exact ⟨rfl, rfl⟩)); apply Exists.intro; refine ⟨fun w' hC => ?_, ?_⟩; (first

                      | fail); apply Exists.intro; refine ⟨?_, ?_⟩; (go_simp <;> (first | rfl | exact ⟨rfl, rfl⟩)); go_big_quiet_on)))
          all_goals refine wpQuiet_nil ?_
          intro w2 hw2
          go_wp2
          go_roundw
          case rel => exact ⟨k + 1, by omega, by go_num, by rw [HB1.out], (hbX.trans (hb1.mono hbX.size)).trans (hw2.mono (hbX.trans (hb1.mono hbX.size)).size)⟩
          case measure => simp [intOf]; omega
        · obtain ⟨j, hj⟩ : ∃ j : Nat, bestK per cap lock l now C k = j := ⟨(bestK per cap lock l now C k).toNat, by omega⟩
          have HB0 := HBEST.out
          rw [if_neg (by simp [hlk]), if_neg hb0, hj, Int.toNat_natCast] at HB0
          rw [hj] at hbk hb0
          have HB1 := Lib.hid HB0
          have HJ := Lib.hid hj
          clear hlk HB0
          have hjC : j < C.length := by omega
          have hjlt : (j : Int) < C.length := by omega
          have hy := hok _ (clAt_mem hjC)
          rw [HJ.out]
          clear hj hb0
          have hd : decide ((j : Int) < 0) = false := by simp
          go_wp2_with fail
          refine (lock_c per cap hold lock sp sg A c n l now (clAt C k) _ hn hIX hl hS hlock hnow hx HLK.out).mono ?_
          rintro e w1 ⟨rfl, hb1⟩
          have bY := hbX.trans (hb1.mono hbX.size)
          have f0 := e0.below hb1
          have f1 := e1.below hb1
          have f2 := B2.below hb1
          have hI1 := hIX.grow hb1
          obtain ⟨b', off', hbo, hB', hc'⟩ := (hEX.grow hb1).at hjC
          injection hbo with hbo
          injection hbo with e1' e2' _
          subst e1' e2'
          obtain ⟨c0, c1, c2, c3, c4⟩ := hc'.later hB'
          have r0 := f0.laterN 0 rfl
          have r1 := f0.laterN 1 rfl
          have r2 := f0.laterN 2 rfl
          have r3 := f0.laterN 3 rfl
          have r4 := f0.laterN 4 rfl
          have r5 := f0.laterN 5 rfl
          have s0 := f1.laterN 0 rfl
          have s1 := f1.laterN 1 rfl
          have s2 := f1.laterN 2 rfl
          have t0 := f2.laterN 0 rfl
          have t1 := f2.laterN 1 rfl
          have t2 := f2.laterN 2 rfl
          have t3 := f2.laterN 3 rfl
          have t4 := f2.laterN 4 rfl
          go_wp2_with fail
          cases hls : lessC per cap l now (clAt C k) (clAt C j) with
          | true =>
            have HB2 := Lib.hid (show bestK per cap lock l now C (k + 1) = k by rw [HB1.out, if_pos hls])
            have HLS := Lib.hid hls
            clear hls
            refine wp_region_grow (by kernel_rfl) (by kernel_rfl) ?_
            repeat' (first
                | go_big_quiet_skip
                | (go_big_quiet_want; first
                    | (go_big_quiet_op; go_big_quiet_on)
                    | (refine quiet_det ?_; apply Exists.intro; refine ⟨fun w' hC => ?_, ?_⟩; (go_simp <;> (first | rfl | exact ⟨rfl, rfl⟩)); apply Exists.intro; refine ⟨?_, ?_⟩; (go_simp <;> (first | rfl | exact ⟨rfl, rfl⟩)); go_big_quiet_on)
                    | (show Oper.quiet _ { dst := _, op := .call { callee := .value _, args := _, argTypes := _ }, type := _, pos := _, after := _, guard := _ } _ _ _; refine quiet_call ?_; apply Exists.intro; apply Exists.intro; refine ⟨fun w' hC => ?_, ?_⟩; (go_simp <;> (first | rfl | exact ⟨rfl, rfl⟩)); apply Exists.intro; refine ⟨fun w' hC => ?_, ?_⟩; (first
                        | with_reducible exact grow_call (less_c per cap hold lock sp sg A c n l now (clAt C k) (clAt C j) w' hn (hI1.grow hC) hl hS hper hcap hlock hnow hx hy HLS.out) hC
                        | fail); apply Exists.intro; refine ⟨?_, ?_⟩; (go_simp <;> (first | rfl | exact ⟨rfl, rfl⟩)); go_big_quiet_on)))
            all_goals refine wpQuiet_nil ?_
            intro w2 hw2
            go_wp2
            go_roundw
            case rel => exact ⟨k + 1, by omega, by go_num, by rw [HB2.out], bY.trans (hw2.mono bY.size)⟩
            case measure => simp [intOf]; omega
          | false =>
            have HB2 := Lib.hid (show bestK per cap lock l now C (k + 1) = j by rw [HB1.out, if_neg (by simp [hls])])
            have HLS := Lib.hid hls
            clear hls
            refine wp_region_grow (by kernel_rfl) (by kernel_rfl) ?_
            repeat' (first
                | go_big_quiet_skip
                | (go_big_quiet_want; first
                    | (go_big_quiet_op; go_big_quiet_on)
                    | (refine quiet_det ?_; apply Exists.intro; refine ⟨fun w' hC => ?_, ?_⟩; (go_simp <;> (first | rfl | exact ⟨rfl, rfl⟩)); apply Exists.intro; refine ⟨?_, ?_⟩; (go_simp <;> (first | rfl | exact ⟨rfl, rfl⟩)); go_big_quiet_on)
                    | (show Oper.quiet _ { dst := _, op := .call { callee := .value _, args := _, argTypes := _ }, type := _, pos := _, after := _, guard := _ } _ _ _; refine quiet_call ?_; apply Exists.intro; apply Exists.intro; refine ⟨fun w' hC => ?_, ?_⟩; (go_simp <;> (first | rfl | exact ⟨rfl, rfl⟩)); apply Exists.intro; refine ⟨fun w' hC => ?_, ?_⟩; (first
                        | with_reducible exact grow_call (less_c per cap hold lock sp sg A c n l now (clAt C k) (clAt C j) w' hn (hI1.grow hC) hl hS hper hcap hlock hnow hx hy HLS.out) hC
                        | fail); apply Exists.intro; refine ⟨?_, ?_⟩; (go_simp <;> (first | rfl | exact ⟨rfl, rfl⟩)); go_big_quiet_on)))
            all_goals refine wpQuiet_nil ?_
            intro w2 hw2
            go_wp2
            go_roundw
            case rel => exact ⟨k + 1, by omega, by go_num, by rw [HB2.out], bY.trans (hw2.mono bY.size)⟩
            case measure => simp [intOf]; omega
    · go_wp2
      go_ret
      exact ⟨ret_i (by rw [show k = C.length by omega]), bW.trans (hbr.mono bW.size)⟩
end Go.Proofs.Ytikffoepndpfjaa

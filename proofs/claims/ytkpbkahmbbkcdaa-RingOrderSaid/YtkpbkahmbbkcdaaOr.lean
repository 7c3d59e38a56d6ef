/-
  The law RingOrder. Conditions: none.
-/
import Derived.Test.YtkpbkahmbbkcdaaGo
import Derived.Test.YtkpbkahmbbkcdaaTs
import Derived.Deep.OwnRows
import Derived.BigQuiet
import Derived.Great.BuildSlice
namespace Go.Proofs.Ytkpbkahmbbkcdaa
open Go.ChangeShapes Go.WideShapes Go.RowKit
set_option linter.unusedVariables false

theorem LiB.ne_nx' {w : World} {g b : Nat} {L : List (Int × Int)} {X : List Int} (h : LiB w g L) (hB : NxB w b X) : g ≠ b := fun e => by
  obtain ⟨ds, hd, _⟩ := h
  obtain ⟨es, he, _⟩ := hB
  rw [e] at hd
  have := hd.symm.trans he
  injection this with this; injection this with _ this; exact absurd this (by decide)
theorem pair_nxb {w : World} : NxB (w.alloc (.cells #[.int .i64 (-1), .int .i64 (-1)] 3)) w.heap.size [-1, -1] := by
  refine ⟨_, Blk.new, fun i hi => ?_⟩
  have hi : i < 2 := hi
  rcases (by omega : i = 0 ∨ i = 1) with rfl | rfl <;> rfl
theorem pair_at {k : Nat} (h : k < 2) : at_ [-1, -1] k = -1 := by rcases (by omega : k = 0 ∨ k = 1) with rfl | rfl <;> rfl
/-- The variable gc holds the control c, and the numbers L lie in gL. -/
def StdO (W wr : World) (B gc n gL : Nat) (L : List Int) (c : Ct) : Prop := StdC W wr B gc n c ∧ NxB wr gL L ∧ B ≤ gL ∧ gL ≠ gc
theorem StdO.grow {W wr w' : World} {B gc n gL : Nat} {L : List Int} {c : Ct} (h : StdO W wr B gc n gL L c) (hB : B ≤ wr.heap.size) (hb : Below wr.heap.size wr w') : StdO W w' B gc n gL L c :=
  ⟨h.1.grow hB hb, h.2.1.below hb, h.2.2⟩
theorem out_0 {P : List Ph} {C : List Int} {n : Nat} {st : Int} (hj : JunC P C n st) (hjv : JunV P C st) : OutI (groupsI P n) (initC P n st) [-1, -1] 0 := by
  refine ⟨rfl, ?_⟩
  by_cases h : groupsI P n = 1
  · exact .inl ⟨h, rfl⟩
  · refine .inr ⟨h, .inl ⟨rfl, fun k hk h0 => ?_⟩⟩
    have : at_ [-1, -1] k = -1 := by rcases (by omega : k = 0 ∨ k = 1) with rfl | rfl <;> rfl
    omega
set_option maxRecDepth 40000 in
set_option maxHeartbeats 8000000 in
theorem order_any (A0 : Option Addr) (cA : Nat) (l : List Int) (nn : Int) (w : World) (hs : Ints .i64 w w.heap.size A0 l) (hn : Nums l) (hl : l.length ≤ 9223372036854775807) (n0 : -9223372036854775808 ≤ nn) (n1 : nn ≤ 9223372036854775807) :
    Calls Try.prog 10 #[.slice A0 l.length cA, .int .i64 nn] w fun e w' => e = .returned (.bool true) ∧ Below w.heap.size w w' := by
  go_enter Try.func10, Try.ntmps10
  go_wp2_with fail
  refine (new_ok A0 l cA _ hs hn hl).mono ?_
  rintro e w2 ⟨rfl, hdk, hb2, hlt2⟩
  go_wp2_with fail
  refine (junction_any w.heap.size w2 hdk).mono ?_
  rintro e w3 ⟨hgr, hdk3, q, st, ex, P, A1, B1, cU, cW, rfl, hj, hP, hI, hA1, hB1, hcU, hdW⟩
  have hb3 := hgr.base hb2 (Nat.le_refl _)
  have hjc := junC_drawn hj
  have hjv := jun_drawn hj
  obtain ⟨n, hnn⟩ : ∃ n, P.length = n := ⟨_, rfl⟩
  obtain ⟨C, hCC⟩ : ∃ C, rowsL P ex = C := ⟨_, rfl⟩
  rw [hnn, hCC] at hjc
  rw [hCC] at hI hjv
  rw [hnn] at hcU hdW ⊢
  have HN := Lib.hid hnn
  have HRC := Lib.hid hjc.rows.len
  clear hnn hCC hgr hdk hdk3 hb2 hj hA1 hB1
  have h1 := hjc.h1
  have h8 := hjc.h8
  obtain ⟨bA, oA, rfl, hbA, _⟩ := hP (by have := HN.out; omega)
  obtain ⟨bB, oB, rfl, hbB, _⟩ := hI (by have := HRC.out; omega)
  have bJ := lat_alloc (Below.refl w3.heap.size w3) (.cells #[.slice (some ⟨bA, oA, none⟩) n cU, .slice (some ⟨bB, oB, none⟩) n cW, .int .i64 st] 30)
  have BJ := Blk.new (w := w3) (t := 30) (cs := #[.slice (some ⟨bA, oA, none⟩) n cU, .slice (some ⟨bB, oB, none⟩) n cW, .int .i64 st])
  have hI4 := hI.grow bJ
  have hP4 := hP.grow bJ
  have hb4 := hb3.trans (bJ.mono hb3.size)
  go_wp2_with fail
  have HGC := Lib.hid (heap_size w3 (.cells #[.slice (some ⟨bA, oA, none⟩) n cU, .slice (some ⟨bB, oB, none⟩) n cW, .int .i64 st] 30))
  generalize w3.alloc (.cells #[.slice (some ⟨bA, oA, none⟩) n cU, .slice (some ⟨bB, oB, none⟩) n cW, .int .i64 st] 30) = W4 at *
  generalize w3.heap.size = gj at *
  clear bJ hI hP hb3 hs
  obtain ⟨B, hBB⟩ : ∃ B, W4.heap.size = B := ⟨_, rfl⟩
  have HBB := Lib.hid hBB
  have hgjB : gj < B := by have := HGC.out; omega
  have hbAB : bA < B := by have := HGC.out; omega
  have hbBB : bB < B := by have := HGC.out; omega
  have hBW : B ≤ W4.heap.size := by omega
  have hwB : w.heap.size ≤ B := by have := hb4.size; omega
  refine (pinit_any (some ⟨bA, oA, none⟩) (some ⟨bB, oB, none⟩) cU cW n n P st W4 HN.out hP4 h1 (by omega)).mono ?_
  rintro e w5 ⟨v, rfl, b5, gl, cl, gx, cx, rfl, hgl, hgx, L5, N5⟩
  rw [hBB] at hI4 hP4 hgl hgx b5
  clear hBB
  have Jx := (BJ.low b5 hgjB).alloc (.cells #[.slice (some ⟨gl, 0, none⟩) n cl, .int .i64 (initC P n st).gr, .slice (some ⟨gx, 0, none⟩) 2 cx, .int .i64 (initC P n st).wt] 25)
  have Jy := Jx.alloc (.cells #[.int .i64 (-1), .int .i64 (-1)] 3)
  have j0 := Jy.at 0 rfl
  go_wp2_with (refine wpList_buildFlatAt rfl 23 3 2 _ rfl .i64 [-1, -1] _ rfl _ rfl Try.underlying23 (by rfl) (by rfl) rfl (by omega) (by omega) (by rfl) ?_; show wpList _ _ _ _ _ (World.alloc _ (.cells #[.int .i64 (-1), .int .i64 (-1)] 3)))
  clear j0 Jx Jy
  have hgl5 := L5.lt
  have hgx5 := N5.lt
  have hs5 := b5.size
  have bC := lat_alloc (Below.refl w5.heap.size w5) (.cells #[.slice (some ⟨gl, 0, none⟩) n cl, .int .i64 (initC P n st).gr, .slice (some ⟨gx, 0, none⟩) 2 cx, .int .i64 (initC P n st).wt] 25)
  have BC := Blk.new (w := w5) (t := 25) (cs := #[.slice (some ⟨gl, 0, none⟩) n cl, .int .i64 (initC P n st).gr, .slice (some ⟨gx, 0, none⟩) 2 cx, .int .i64 (initC P n st).wt])
  have N0 := pair_nxb (w := w5.alloc (.cells #[.slice (some ⟨gl, 0, none⟩) n cl, .int .i64 (initC P n st).gr, .slice (some ⟨gx, 0, none⟩) 2 cx, .int .i64 (initC P n st).wt] 25))
  have bZ := lat_alloc (Below.refl (w5.alloc (.cells #[.slice (some ⟨gl, 0, none⟩) n cl, .int .i64 (initC P n st).gr, .slice (some ⟨gx, 0, none⟩) 2 cx, .int .i64 (initC P n st).wt] 25)).heap.size (w5.alloc (.cells #[.slice (some ⟨gl, 0, none⟩) n cl, .int .i64 (initC P n st).gr, .slice (some ⟨gx, 0, none⟩) 2 cx, .int .i64 (initC P n st).wt] 25))) (.cells #[.int .i64 (-1), .int .i64 (-1)] 3)
  have hb2 := bC.trans (bZ.mono bC.size)
  have L6 := (L5.below bC).below bZ
  have N6 := (N5.below bC).below bZ
  have BC6 := BC.below bZ
  have b6 := b5.trans (hb2.mono (by omega))
  rw [heap_size] at N0
  generalize (w5.alloc (.cells #[.slice (some ⟨gl, 0, none⟩) n cl, .int .i64 (initC P n st).gr, .slice (some ⟨gx, 0, none⟩) 2 cx, .int .i64 (initC P n st).wt] 25)).alloc (.cells #[.int .i64 (-1), .int .i64 (-1)] 3) = W6 at *
  obtain ⟨gc, hgc⟩ : ∃ gc, w5.heap.size = gc := ⟨_, rfl⟩
  obtain ⟨gs, hgs⟩ : ∃ gs, w5.heap.size + 1 = gs := ⟨_, rfl⟩
  rw [hgs] at N0 ⊢
  rw [hgc] at BC6 hgl5 hgx5 ⊢
  have hBgc : B ≤ gc := by omega
  have hBgs : B ≤ gs := by omega
  have hgsc : gs ≠ gc := by omega
  have S6 : StdO W4 W6 B gc n gs [-1, -1] (initC P n st) := ⟨⟨gl, cl, gx, cx, b6, BC6, L6, N6, by omega, by omega⟩, N0, hBgs, hgsc⟩
  have hv0 : CtV P C n st (initC P n st) := init_v h1 hjc.st.1 hjc.gr
  have hgp := groups_pos (P := P) (n := n) h1 (fun i hi => (hjc.gr i hi).1)
  have hgb := groups_bd (P := P) (fun i hi => hjc.gr i (by have := HN.out; omega)) n (by have := HN.out; omega)
  have ho0 : OutI (groupsI P n) (initC P n st) [-1, -1] 0 := out_0 hjc hjv
  have hW6 : B ≤ W6.heap.size := Nat.le_trans hBW b6.size
  clear bC b5 L5 N5 hgl hgx hgl5 hgx5 hs5 hgc hgs L6 N6 BC BC6 bZ hb2 hBgs hgsc N0
  go_loopw [9, 25] (fun s9 v wr => ∃ i : Nat, i ≤ n ∧ s9 = .int .i64 (max 1 (groupsI P i)) ∧ v = .int .i64 i ∧ Below W6.heap.size W6 wr) (fun _ v _ => n - (intOf v).toNat)
  case atStart => exact ⟨0, Nat.zero_le _, rfl, rfl, Below.refl _ _⟩
  case round =>
    obtain ⟨i, hi, rfl, rfl, hbr⟩ := hrel
    have Br := b6.trans (hbr.mono hW6)
    by_cases hlt : i < n
    · as_aux_lemma =>
      clear S6 hv0 ho0
      have hltZ : (i : Int) < n := by omega
      obtain ⟨bA', oA', hA', hbA', hph⟩ := hP4.low Br hBW (by have := HN.out; omega)
      injection Option.some.inj hA' with hA2 hA3 _
      subst hA2; subst hA3
      have hXp := hph i (by have := HN.out; omega)
      have hgi := hjc.gr i hlt
      have hgB := groups_bd (P := P) (fun i hi => hjc.gr i (by have := HN.out; omega)) i (by have := HN.out; omega)
      have hgs := Lib.hid (show groupsI P (i + 1) = if groupsI P i < (phAt P i).gr + 1 then (phAt P i).gr + 1 else groupsI P i by rw [groupsI])
      obtain ⟨xp, hxp⟩ : ∃ xp, phAt P i = xp := ⟨_, rfl⟩
      rw [hxp] at hXp hgi hgs
      obtain ⟨G, hG⟩ : ∃ G, groupsI P i = G := ⟨_, rfl⟩
      rw [hG] at hgs hgB ⊢
      obtain ⟨M, hM⟩ : ∃ M, max 1 G = M := ⟨_, rfl⟩
      rw [hM]
      have HM := Lib.hid hM
      have hM1 : 1 ≤ M ∧ M ≤ 4 := by omega
      clear hph hA' hbA' hxp hG hM
      obtain ⟨x0, x1, x2, x3, x4, x5, x6, x7⟩ := hXp
      have B5 := Blk.new (w := wr) (t := 51) (cs := #[.int .i64 xp.ri, .int .i64 xp.gr, .int .i64 xp.mn, .int .i64 xp.mx, .int .i64 xp.yl, .int .i64 xp.rd, .int .i64 xp.wk, .int .i64 xp.cl])
      have k1 := B5.at 1 rfl
      have bX := lat_alloc hbr (.cells #[.int .i64 xp.ri, .int .i64 xp.gr, .int .i64 xp.mn, .int .i64 xp.mx, .int .i64 xp.yl, .int .i64 xp.rd, .int .i64 xp.wk, .int .i64 xp.cl] 51)
      clear B5
      by_cases hm : M < xp.gr + 1
      · have zz : max M (xp.gr + 1) = xp.gr + 1 := by omega
        go_wp2_with fail
        go_roundw
        case rel => exact ⟨i + 1, hlt, by rw [hgs.out]; have := HM.out; congr 1; split <;> omega, by go_num, bX⟩
        case measure => simp [intOf]; omega
      · have zz : max M (xp.gr + 1) = M := by omega
        go_wp2_with fail
        go_roundw
        case rel => exact ⟨i + 1, hlt, by rw [hgs.out]; have := HM.out; congr 1; split <;> omega, by go_num, bX⟩
        case measure => simp [intOf]; omega
    · as_aux_lemma =>
      have hltZ : ¬ (i : Int) < n := by omega
      have hmx : max 1 (groupsI P i) = groupsI P n := by rw [show i = n by omega]; omega
      rw [hmx]
      have S7 := S6.grow hW6 hbr
      obtain ⟨M, hM, hM60⟩ := modI_nat' nn 60 (by omega)
      have HM := Lib.hid hM
      have hi0 : True := trivial
      clear hM hmx b6 hbr S6 hi hlt
      have zw : IntKind.i64.wrap (30 + (M : Int)) = 30 + (M : Int) := by rw [IntKind.wrap_i64]; omega
      go_wp2_with fail
      refine (mod_k HM.out (by omega) (by omega) (by omega) (by omega) _).mono ?_
      rintro e w8 ⟨rfl, rfl⟩
      go_wp2_with fail
      clear hltZ
      go_loopw [7, 8, 38] (fun s7 s8 v wr => ∃ (i gL : Nat) (c : Ct) (L : List Int) (G : Int), i ≤ 30 + M ∧ s7 = .slice (some ⟨gL, 0, none⟩) 2 2 ∧ s8 = .int .i64 G ∧ v = .int .i64 i ∧ StdO W4 wr B gc n gL L c ∧ CtV P C n st c ∧ OutI (groupsI P n) c L G ∧ 0 ≤ G ∧ G ≤ 3) (fun _ _ v _ => 30 + M - (intOf v).toNat)
      case atStart => exact ⟨0, gs, _, _, 0, Nat.zero_le _, rfl, rfl, rfl, S7, hv0, ho0, by omega, by omega⟩
      case round =>
        obtain ⟨i, gL, c, L, G, hi, rfl, rfl, rfl, hS, hvc, hout, hG0, hG3⟩ := hrel
        clear S7 hv0 ho0
        by_cases hlt : i < 30 + M
        · as_aux_lemma =>
          have hltZ : (i : Int) < 30 + (M : Int) := by omega
          obtain ⟨⟨gl, cl, gx, cx, Br, Cr, Lr, Nr, hlc, hxc⟩, NL, hBL, hLc⟩ := hS
          have Jr := BJ.low Br hgjB
          have j0 := Jr.at 0 rfl; have j1 := Jr.at 1 rfl; have j2 := Jr.at 2 rfl
          have a0 := Cr.at 0 rfl; have a1 := Cr.at 1 rfl; have a2 := Cr.at 2 rfl; have a3 := Cr.at 3 rfl
          have hvs := step_v hjc.rows hvc h1 hjc.pok hjc.ri hjc.gr (-1)
          have hst := ord_step hjc hjv hvc
          have hstp := pstep_any (some ⟨bA, oA, none⟩) (some ⟨bB, oB, none⟩) (some ⟨gl, 0, none⟩) (some ⟨gx, 0, none⟩) cU cW cl cx n P C c st (-1) wr hjc hjv hvc (hP4.low Br hBW) (hI4.low Br hBW) hcU Lr.prs Nr.ints
          obtain ⟨s, hss⟩ : ∃ s, stepC P C n c (-1) = s := ⟨_, rfl⟩
          rw [hss] at hvs hst hstp
          obtain ⟨eg, en, hord⟩ := hst
          have HIN := Lib.hid (hout.enter hord hvc.gr)
          have HORD := Lib.hid hord
          have HVS := Lib.hid hvs
          have HST := Lib.hid hstp
          have HLI := Lib.hid hvs.li
          have HLC := Lib.hid hvc.li
          clear hss hvs hstp hvc hord hout
          go_wp2_with fail
          refine (HST.out).mono ?_
          rintro e w12 ⟨v, rfl, b12, gl2, cl2, gx2, cx2, rfl, hgl2, hgx2, L12, N12⟩
          clear HST
          have hgcs := Cr.lt
          have hgLs := NL.lt
          have C12 := Cr.below b12
          have L1 := Lr.below b12
          have R12 := NL.below b12
          have B12 := Br.trans (b12.mono (Nat.le_trans hBW Br.size))
          have hwr12 := b12.size
          clear j0 j1 j2 a0 a1 a2 a3 Br Cr Jr Lr Nr NL b12
          have bx := lat_alloc (Below.refl w12.heap.size w12) (.cells #[.slice (some ⟨gl2, 0, none⟩) n cl2, .int .i64 (s).gr, .slice (some ⟨gx2, 0, none⟩) 2 cx2, .int .i64 (s).wt] 25)
          have X13 := Blk.new (w := w12) (t := 25) (cs := #[.slice (some ⟨gl2, 0, none⟩) n cl2, .int .i64 (s).gr, .slice (some ⟨gx2, 0, none⟩) 2 cx2, .int .i64 (s).wt])
          have C13 := C12.below bx
          have L13 := L12.below bx
          have N13 := N12.below bx
          have L1b := L1.below bx
          have R13 := R12.below bx
          have B13 := B12.trans (bx.mono (Nat.le_trans hBW B12.size))
          have J13 := BJ.low B13 hgjB
          have c0 := C13.at 0 rfl
          have x0 := X13.at 0 rfl
          have j0 := J13.at 0 rfl
          have zneq : ((n : Int) != (n : Int)) = false := by simp
          have hs13 := heap_size w12 (.cells #[.slice (some ⟨gl2, 0, none⟩) n cl2, .int .i64 (s).gr, .slice (some ⟨gx2, 0, none⟩) 2 cx2, .int .i64 (s).wt] 25)
          obtain ⟨gX, hgX⟩ : ∃ gX, w12.heap.size = gX := ⟨_, rfl⟩
          have HS13 := Lib.hid hs13
          have HGX := Lib.hid hgX
          clear hs13 hgX C12 L12 N12 L1 R12 B12 bx
          go_wp2_with fail
          clear c0 x0 j0 J13
          generalize w12.alloc (.cells #[.slice (some ⟨gl2, 0, none⟩) n cl2, .int .i64 (s).gr, .slice (some ⟨gx2, 0, none⟩) 2 cx2, .int .i64 (s).wt] 25) = w13 at *
          have hgX := HGX.out
          have hs13 := HS13.out
          rw [hgX] at X13 hs13 hwr12 ⊢
          have hl2 : gl2 ≠ gL := by omega
          have hx2 : gx2 ≠ gL := by omega
          have hgXL : gX ≠ gL := by omega
          have hgXc : gX ≠ gc := by omega
          have hgl2c : gl2 ≠ gc := by omega
          have hgx2c : gx2 ≠ gc := by omega
          have hgx2s : gx2 < w13.heap.size := N13.lt
          have hgcs13 : gc < w13.heap.size := C13.lt
          have hB13 : B ≤ w13.heap.size := Nat.le_trans hBW B13.size
          have hlL : gl ≠ gL := L1b.ne_nx' R13
          clear HGX HS13 hgX hs13 hwr12 hgl2 hgx2 hgcs hgLs
          go_loopw [7, 8, 62] (fun s7 s8 v wr => ∃ (p g2 : Nat) (K : List Int) (G2 : Int), p ≤ n ∧ s7 = .slice (some ⟨g2, 0, none⟩) 2 2 ∧ s8 = .int .i64 G2 ∧ v = .int .i64 p ∧ w13.grownBy wr (some gL) ∧ NxB wr g2 K ∧ (g2 = gL ∨ w13.heap.size ≤ g2) ∧ InnI (groupsI P n) c s eg en p K G2 ∧ 0 ≤ G2 ∧ G2 ≤ 3) (fun _ _ v _ => n - (intOf v).toNat)
          case atStart => exact ⟨0, gL, L, G, Nat.zero_le _, rfl, rfl, rfl, World.grownBy.refl _ _, R13, .inl rfl, HIN.out, hG0, hG3⟩
          case round =>
            obtain ⟨p, g2, K, G2, hp, rfl, rfl, rfl, hgw, Nr, hg2, hin, hG20, hG23⟩ := hrel
            have HI := Lib.hid hin
            have HG2 := Lib.hid hg2
            have HKL := Lib.hid hin.1
            by_cases hlp : p < n
            · as_aux_lemma =>
              have hltZ2 : (p : Int) < n := by omega
              obtain ⟨l0, l1, f0, f1⟩ := (L13.grown hgw (by intro e; injection e with e; exact hl2 e.symm)).at (i := p) (by rw [HLI.out]; exact hlp)
              clear f0 f1
              obtain ⟨m0, m1, f0, f1⟩ := ((L1b.grown hgw (by intro e; injection e with e; exact hlL e.symm)).below (lat_alloc (Below.refl wr.heap.size wr) (.cells #[.int .i64 (prAt s.li p).1, .int .i64 (prAt s.li p).2] 45))).at (i := p) (by rw [HLC.out]; exact hlp)
              clear f0 f1 m1
              have T8 := Blk.new (w := wr) (t := 45) (cs := #[.int .i64 (prAt s.li p).1, .int .i64 (prAt s.li p).2])
              have bx := lat_alloc (Below.refl wr.heap.size wr) (.cells #[.int .i64 (prAt s.li p).1, .int .i64 (prAt s.li p).2] 45)
              have hg8 := grown_more hgw (grown_of_below (row := some gL) bx) (fun j e => .inr e)
              have c0 := (C13.grown hg8 (by intro e; injection e with e; exact hLc e)).at 0 rfl
              have u0 := T8.at 0 rfl
              have N8 := Nr.below bx
              have B8 : Below B W4 (wr.alloc (.cells #[.int .i64 (prAt s.li p).1, .int .i64 (prAt s.li p).2] 45)) := B13.grown hg8 hB13 (fun k e => by injection e with e; omega)
              obtain ⟨ls, hls⟩ : ∃ ls, (prAt s.li p).1 = ls := ⟨_, rfl⟩
              obtain ⟨lc, hlc2⟩ : ∃ lc, (prAt c.li p).1 = lc := ⟨_, rfl⟩
              obtain ⟨ks, hks⟩ : ∃ ks, (prAt s.li p).2 = ks := ⟨_, rfl⟩
              have HLS := Lib.hid (show lmp s.li p = ls from hls)
              have HLC2 := Lib.hid (show lmp c.li p = lc from hlc2)
              rw [hls] at l0 u0 c0 m0 T8 N8 hg8 B8
              rw [hlc2] at m0
              rw [hks] at l1 u0 c0 m0 T8 N8 hg8 B8
              clear hls hlc2 hks bx
              by_cases h3 : ls = 1
              · have z3 : (ls != 1) = false := by rw [h3]; rfl
                have HL3 := Lib.hid h3
                clear h3
                by_cases h4 : lc = 1
                · have z4 : (lc == 1) = true := by rw [h4]; rfl
                  have HL4 := Lib.hid h4
                  clear h4 T8
                  go_wp2_with fail
                  go_roundw
                  case rel => exact ⟨p + 1, g2, K, G2, hlp, rfl, rfl, by go_num, hg8, N8, HG2.out, HI.out.skip (fun h => h.1 (HLC2.out.trans HL4.out)), hG20, hG23⟩
                  case measure => simp [intOf]; omega
                · have z4 : (lc == 1) = false := by simpa using h4
                  have HNG := Lib.hid (show NewG c s p from ⟨by rw [HLC2.out]; exact h4, HLS.out.trans HL3.out⟩)
                  clear h4
                  have J8 := BJ.low B8 hgjB
                  have j0 := J8.at 0 rfl
                  obtain ⟨bA', oA', hA', hbA', hph⟩ := hP4.low B8 hBW (by have := HN.out; omega)
                  injection Option.some.inj hA' with hA2 hA3 _
                  subst hA2; subst hA3
                  have hXp := hph p (by have := HN.out; omega)
                  have hgi := hjc.gr p hlp
                  have hri := hjc.ri p hlp
                  have hgl9 := gr_lt (P := P) n p hlp
                  obtain ⟨xp, hxp⟩ : ∃ xp, phAt P p = xp := ⟨_, rfl⟩
                  have HXP := Lib.hid hxp
                  rw [hxp] at hXp hgi hri hgl9
                  obtain ⟨xri, xgr, xmn, xmx, xyl, xrd, xwk, xcl⟩ := xp
                  replace hri : 0 ≤ xri ∧ xri ≤ 1 := hri
                  replace hgi : 0 ≤ xgr ∧ xgr ≤ 3 := hgi
                  replace hgl9 : xgr < groupsI P n := hgl9
                  obtain ⟨k, hk⟩ : ∃ k : Nat, xri = k := ⟨xri.toNat, by omega⟩
                  subst hk
                  have HK := Lib.hid (show (phAt P p).ri = (k : Nat) by rw [HXP.out])
                  have HXG := Lib.hid (show (phAt P p).gr = xgr by rw [HXP.out])
                  have hkZ : (k : Int) < 2 := by omega
                  have hk0 : (0 : Int) ≤ k := by omega
                  have hk2 : k < 2 := by omega
                  obtain ⟨x0, x1, x2, x3, x4, x5, x6, x7⟩ := hXp
                  clear hph hA' hbA' hxp hri
                  obtain ⟨W8, hW8⟩ : ∃ W8, wr.alloc (.cells #[.int .i64 ls, .int .i64 ks] 45) = W8 := ⟨_, rfl⟩
                  have P9 := Blk.new (w := W8) (t := 51) (cs := #[.int .i64 (k : Int), .int .i64 xgr, .int .i64 xmn, .int .i64 xmx, .int .i64 xyl, .int .i64 xrd, .int .i64 xwk, .int .i64 xcl])
                  have b9 := lat_alloc (Below.refl W8.heap.size W8) (.cells #[.int .i64 (k : Int), .int .i64 xgr, .int .i64 xmn, .int .i64 xmx, .int .i64 xyl, .int .i64 xrd, .int .i64 xwk, .int .i64 xcl] 51)
                  rw [hW8] at N8 hg8 B8 J8
                  have hg9 := grown_more hg8 (grown_of_below (row := some gL) b9) (fun j e => .inr e)
                  have N9 := N8.below b9
                  have hN9 := N9.lt
                  rw [← hW8] at P9 hg9 N9 hN9
                  have r0 := P9.at 0 rfl
                  have r1 := P9.at 1 rfl
                  have m2 := (N9.at (i := k) (by rw [HKL.out]; exact hk2)).1
                  obtain ⟨q, hq⟩ : ∃ q, at_ K k = q := ⟨_, rfl⟩
                  rw [hq] at m2
                  have HQ := Lib.hid hq
                  obtain ⟨gg, hgg⟩ : ∃ gg, groupsI P n = gg := ⟨_, rfl⟩
                  rw [hgg] at hgl9 HI hgp hgb ⊢
                  have HGG := Lib.hid hgg
                  have hPne : (some g2 : Option Nat) ≠ some (wr.alloc (.cells #[.int .i64 ls, .int .i64 ks] 45)).heap.size := by
                    intro e; injection e with e; rw [← hW8] at N8; have := N8.lt; omega
                  clear hgg hq b9 J8 hW8 B8 N8 hg8
                  by_cases hgne : xgr = G2
                  · have zg : (xgr != G2) = false := by rw [hgne]; simp
                    have HGE := Lib.hid hgne
                    clear hgne
                    by_cases hg1 : gg = 1
                    · have zg1 : (gg == 1) = true := by rw [hg1]; rfl
                      have HG1 := Lib.hid hg1
                      have HG0 := Lib.hid (show G2 = 0 by have h9 := HGE.out; omega)
                      clear hg1
                      by_cases hle : (p : Int) ≤ q
                      · as_aux_lemma =>
                          have hneg : ¬ (p : Int) ≤ -1 := by omega
                          have HKL2 := Lib.hid (show k < K.length by rw [HKL.out]; exact hk2)
                          go_wp2_with (first | (refine step_store_nx (by rfl) (by rfl) (by rfl) (g := g2) (i := k) (by rfl) (by rfl) N9 HKL2.out ?_; intro w10 N10 hg10; have r0' : w10.cell? ⟨wr.heap.size + 1, 0, none⟩ = some (.int .i64 (k : Int)) := (by have h := (P9.grown hg10 hPne).at 0 rfl; rw [heap_size] at h; exact h); have m3 := ((N10.at (i := k) (by rw [List.length_set]; exact HKL2.out)).1.trans (by rw [at_set HKL2.out, if_pos rfl]))) | (refine step_store_nx (by rfl) (by rfl) (by rfl) (g := g2) (i := k) (by rfl) (by rfl) N10 (by rw [List.length_set]; exact HKL2.out) ?_; intro w11 N11 hg11))
                          have hgE := grown_more hg9 hg10 (fun j e => by injection e with e; subst e; exact HG2.out.elim (fun h => .inr (by rw [h])) .inl)
                          have hgF := grown_more hgE hg11 (fun j e => by injection e with e; subst e; exact HG2.out.elim (fun h => .inr (by rw [h])) .inl)
                          have hG0' : G2 = 0 := HG0.out
                          go_roundw
                          case rel => exact ⟨p + 1, g2, (K.set k (-1)).set k p, G2, hlp, rfl, rfl, by go_num, hgF, N11, HG2.out, (by rw [hG0']; rw [hG0'] at HI; exact HI.out.lone HG1.out _ (by rw [List.length_set, List.length_set]; exact HKL.out)), by omega, by omega⟩
                          case measure => simp [intOf]; omega
                      · as_aux_lemma =>
                          have hle2 : ¬ (p : Int) ≤ q := hle
                          have HKL2 := Lib.hid (show k < K.length by rw [HKL.out]; exact hk2)
                          clear hle
                          go_wp2_with (refine step_store_nx (by rfl) (by rfl) (by rfl) (g := g2) (i := k) (by rfl) (by rfl) N9 (by first | exact HKL2.out | (rw [List.length_set]; exact HKL2.out)) ?_; intro w10 N10 hg10)
                          have hgE := grown_more hg9 hg10 (fun j e => by injection e with e; subst e; exact HG2.out.elim (fun h => .inr (by rw [h])) .inl)
                          have hG0' : G2 = 0 := HG0.out
                          go_roundw
                          case rel => exact ⟨p + 1, g2, K.set k p, G2, hlp, rfl, rfl, by go_num, hgE, N10, HG2.out, (by rw [hG0']; rw [hG0'] at HI; exact HI.out.lone HG1.out _ (by rw [List.length_set]; exact HKL.out)), by omega, by omega⟩
                          case measure => simp [intOf]; omega
                    · have zg1 : (gg == 1) = false := by simpa using hg1
                      have HG1 := Lib.hid hg1
                      clear hg1
                      as_aux_lemma =>
                        have HSM := Lib.hid (HI.out.same HORD.out hlp HNG.out HG1.out (HXG.out.trans HGE.out) HK.out hk2)
                        have hle2 : ¬ (p : Int) ≤ q := by have := HSM.out.1; rw [HQ.out] at this; omega
                        have HKL2 := Lib.hid (show k < K.length by rw [HKL.out]; exact hk2)
                        go_wp2_with (refine step_store_nx (by rfl) (by rfl) (by rfl) (g := g2) (i := k) (by rfl) (by rfl) N9 (by first | exact HKL2.out | (rw [List.length_set]; exact HKL2.out)) ?_; intro w10 N10 hg10)
                        have hgE := grown_more hg9 hg10 (fun j e => by injection e with e; subst e; exact HG2.out.elim (fun h => .inr (by rw [h])) .inl)
                        go_roundw
                        case rel => exact ⟨p + 1, g2, K.set k p, G2, hlp, rfl, rfl, by go_num, hgE, N10, HG2.out, (by exact HSM.out.2), by omega, by omega⟩
                        case measure => simp [intOf]; omega
                  · have zg : (xgr != G2) = true := by simpa using hgne
                    have HGE := Lib.hid hgne
                    clear hgne
                    as_aux_lemma =>
                      have HOT := Lib.hid (fun (hg1 : gg ≠ 1) => HI.out.other HORD.out hlp HNG.out hg1 (by rw [HXG.out]; exact HGE.out) HK.out hk2)
                      have hg1 : gg ≠ 1 := by
                        intro h9
                        rcases HI.out.2 with ⟨_, h8⟩ | ⟨h8, _⟩
                        · exact HGE.out (by omega)
                        · exact h8 h9
                      have HSM := Lib.hid (HOT.out hg1)
                      have zw2 : IntKind.i64.wrap (G2 + 1) = G2 + 1 := by rw [IntKind.wrap_i64]; omega
                      have hmod : xgr = (G2 + 1) % gg := by have h9 := HSM.out.1; rw [HXG.out] at h9; exact h9
                      have hrem : (G2 + 1).tmod gg = xgr := by rw [Int.tmod_eq_emod_of_nonneg (by omega)]; exact hmod.symm
                      have hgg0 : gg ≠ 0 := by omega
                      clear hmod
                      go_wp2_with fail
                      have HBX := Lib.hid hg9
                      clear hg9
                      generalize (wr.alloc (.cells #[.int .i64 ls, .int .i64 ks] 45)).alloc (.cells #[.int .i64 (k : Int), .int .i64 xgr, .int .i64 xmn, .int .i64 xmx, .int .i64 xyl, .int .i64 xrd, .int .i64 xwk, .int .i64 xcl] 51) = W9 at *
                      rw [heap_size] at P9
                      obtain ⟨g9, hg9e⟩ : ∃ g9, wr.heap.size + 1 = g9 := ⟨_, rfl⟩
                      rw [hg9e] at P9 ⊢
                      have hs9 := HBX.out.size
                      clear hg9e r0 r1 hPne m2 hN9 x0 x1 x2 x3 x4 x5 x6 x7 l0 l1 m0 c0 u0 j0 T8
                      refine wp_region_pre (R := Bl) 8 133 [fun v _ => v = .pointer (some ⟨g9, 1, none⟩), fun v _ => v = .int .i64 xgr, fun v _ => v = .int .i64 G2, fun v _ => v = .int .i64 (G2 + 1), fun v _ => v = .int .i64 gg, fun v _ => v = .int .i64 xgr, fun v _ => v = .bool false, fun v _ => v = .bool false] (Bl.trans) (Bl.drew) (by kernel_rfl) (fun _ _ d _ _ h => by cases d <;> exact h) rfl (by kernel_rfl) (stay_cons (stays_v _) (stay_cons (stays_v _) (stay_cons (stays_v _) (stay_cons (stays_v _) (stay_cons (stays_v _) (stay_cons (stays_v _) (stay_cons (stays_v _) (stay_cons (stays_v _) (stay_nil))))))))) ?_ ?_
                      · simp only [List.take_succ_cons, List.take_zero]
                        refine steps_cons (Bl.refl) (fun ev xw hb hc hf hfr hd hr => ?_) ?_
                        · have e15 : ev (.tmp 15) = .pointer (some ⟨g9, 0, none⟩) := hfr 15 (by kernel_rfl)
                          clear hfr hd
                          show OpOk _ _ ev xw fun v w' => Bl xw w' ∧ (v = .pointer (some ⟨g9, 1, none⟩))
                          refine opOk_hid (fun Rp HR => ?_)
                          unfold OpOk
                          go_simp
                          rw [HR.out]
                          exact ⟨hr, rfl⟩
                        refine steps_cons (Bl.refl) (fun ev xw hb hc hf hfr hd hr => ?_) ?_
                        · have e88 : ev (.tmp 88) = .pointer (some ⟨g9, 1, none⟩) := hd 0 88 (by kernel_rfl)
                          clear hfr hd
                          have k0 := (P9.below hb).at 1 rfl
                          show OpOk _ _ ev xw fun v w' => Bl xw w' ∧ (v = .int .i64 xgr)
                          refine opOk_hid (fun Rp HR => ?_)
                          unfold OpOk
                          go_simp
                          rw [HR.out]
                          exact ⟨hr, rfl⟩
                        refine steps_cons (Bl.refl) (fun ev xw hb hc hf hfr hd hr => ?_) ?_
                        · have e8 : ev (.tmp 8) = .int .i64 G2 := hfr 8 (by kernel_rfl)
                          clear hfr hd
                          show OpOk _ _ ev xw fun v w' => Bl xw w' ∧ (v = .int .i64 G2)
                          refine opOk_hid (fun Rp HR => ?_)
                          unfold OpOk
                          go_simp
                          rw [HR.out]
                          exact ⟨hr, rfl⟩
                        refine steps_cons (Bl.refl) (fun ev xw hb hc hf hfr hd hr => ?_) ?_
                        · have e90 : ev (.tmp 90) = .int .i64 G2 := hd 2 90 (by kernel_rfl)
                          clear hfr hd
                          show OpOk _ _ ev xw fun v w' => Bl xw w' ∧ (v = .int .i64 (G2 + 1))
                          refine opOk_hid (fun Rp HR => ?_)
                          unfold OpOk
                          go_simp
                          rw [HR.out]
                          exact ⟨hr, rfl⟩
                        refine steps_cons (Bl.refl) (fun ev xw hb hc hf hfr hd hr => ?_) ?_
                        · have e9 : ev (.tmp 9) = .int .i64 gg := hfr 9 (by kernel_rfl)
                          clear hfr hd
                          show OpOk _ _ ev xw fun v w' => Bl xw w' ∧ (v = .int .i64 gg)
                          refine opOk_hid (fun Rp HR => ?_)
                          unfold OpOk
                          go_simp
                          rw [HR.out]
                          exact ⟨hr, rfl⟩
                        refine steps_cons (Bl.refl) (fun ev xw hb hc hf hfr hd hr => ?_) ?_
                        · have e91 : ev (.tmp 91) = .int .i64 (G2 + 1) := hd 3 91 (by kernel_rfl)
                          have e92 : ev (.tmp 92) = .int .i64 gg := hd 4 92 (by kernel_rfl)
                          clear hfr hd
                          show OpOk _ _ ev xw fun v w' => Bl xw w' ∧ (v = .int .i64 xgr)
                          refine opOk_hid (fun Rp HR => ?_)
                          unfold OpOk
                          go_simp
                          rw [HR.out]
                          exact ⟨hr, rfl⟩
                        refine steps_cons (Bl.refl) (fun ev xw hb hc hf hfr hd hr => ?_) ?_
                        · have e89 : ev (.tmp 89) = .int .i64 xgr := hd 1 89 (by kernel_rfl)
                          have e93 : ev (.tmp 93) = .int .i64 xgr := hd 5 93 (by kernel_rfl)
                          clear hfr hd
                          show OpOk _ _ ev xw fun v w' => Bl xw w' ∧ (v = .bool false)
                          refine opOk_hid (fun Rp HR => ?_)
                          unfold OpOk
                          go_simp
                          rw [HR.out]
                          exact ⟨hr, rfl⟩
                        refine steps_cons (Bl.refl) (fun ev xw hb hc hf hfr hd hr => ?_) ?_
                        · have e94 : ev (.tmp 94) = .bool false := hd 6 94 (by kernel_rfl)
                          clear hfr hd
                          show OpOk _ _ ev xw fun v w' => Bl xw w' ∧ (v = .bool false)
                          refine opOk_hid (fun Rp HR => ?_)
                          unfold OpOk
                          go_simp
                          rw [HR.out]
                          exact ⟨hr, rfl⟩
                        exact steps_nil
                      · intro vs W11 hb11 hk
                        have k7 : vs 7 = .bool false := hk 7 (by omega)
                        clear hk
                        simp only [List.take_succ_cons, List.take_zero, List.drop_succ_cons, List.drop_zero, putAll, Act.put, List.setIfInBounds_toArray, List.set_cons_zero, List.set_cons_succ, k7, Nat.reduceAdd, Nat.reduceSub]
                        have P11 := P9.below hb11
                        have bx := lat_alloc (Below.refl W11.heap.size W11) (.cells #[.int .i64 (-1), .int .i64 (-1)] 3)
                        have P12 := P11.below bx
                        have r1 := P11.at 1 rfl
                        have r0 := P12.at 0 rfl
                        have N12 := pair_nxb (w := W11)
                        have m3 := ((N12.at (i := k) hk2).1.trans (by rw [pair_at hk2]))
                        have hneg : ¬ (p : Int) ≤ -1 := by omega
                        have hg11 := grown_more HBX.out (grown_of_below (row := some gL) (hb11.trans bx)) (fun j e => .inr e)
                        have hs11 := hb11.size
                        unfold wpList
                        go_wp2_with (first | (refine wpList_buildFlatAt rfl 23 3 2 _ rfl .i64 [-1, -1] _ rfl _ rfl Try.underlying23 (by rfl) (by rfl) rfl (by omega) (by omega) (by rfl) ?_; show wpList _ _ _ _ _ (World.alloc _ (.cells #[.int .i64 (-1), .int .i64 (-1)] 3))) | (refine step_store_nx (by rfl) (by rfl) (by rfl) (g := W11.heap.size) (i := k) (by rfl) (by rfl) N12 hk2 ?_; intro w10 N10 hg10))
                        have hgE := grown_more hg11 hg10 (fun j e => by injection e with e; exact .inl (by omega))
                        go_roundw
                        case rel => exact ⟨p + 1, W11.heap.size, [-1, -1].set k p, xgr, hlp, rfl, rfl, by go_num, hgE, N10, .inr (by omega), (by have h9 := HSM.out.2; rw [HXG.out] at h9; exact h9), by omega, by omega⟩
                        case measure => simp [intOf]; omega
              · have z3 : (ls != 1) = true := by simpa using h3
                have HL3 := Lib.hid h3
                clear h3 m0 c0 T8
                go_wp2_with fail
                go_roundw
                case rel => exact ⟨p + 1, g2, K, G2, hlp, rfl, rfl, by go_num, hg8, N8, HG2.out, HI.out.skip (fun h => HL3.out (HLS.out.symm.trans h.2)), hG20, hG23⟩
                case measure => simp [intOf]; omega
            · as_aux_lemma =>
              have hltZ2 : ¬ (p : Int) < n := by omega
              have hpn : p = n := by omega
              rw [hpn] at hin
              have HF := Lib.hid (hin.fin HORD.out)
              have X15 := X13.grown hgw (by intro e; injection e with e; exact hgXL e.symm)
              have C15 := C13.grown hgw (by intro e; injection e with e; exact hLc e)
              have L15 := L13.grown hgw (by intro e; injection e with e; exact hl2 e.symm)
              have N15 := N13.grown hgw (by intro e; injection e with e; exact hx2 e.symm)
              have B15 : Below B W4 wr := B13.grown hgw hB13 (fun k e => by injection e with e; omega)
              have a0 := X15.at 0 rfl; have a1 := X15.at 1 rfl; have a2 := X15.at 2 rfl; have a3 := X15.at 3 rfl
              clear hin hpn
              go_wp2_with (refine step_store_ct (by rfl) (by rfl) (by rfl) (by rfl) (by rfl) C15 ?_; intro w17 C17 hg17)
              go_roundw
              case rel =>
                have hg2' := HG2.out
                exact ⟨i + 1, g2, s, K, G2, by omega, rfl, rfl, by go_num, ⟨⟨gl2, cl2, gx2, cx2, B15.grown hg17 (Nat.le_trans hBW B15.size) (fun k e => by injection e with e; omega), C17, L15.grown hg17 (by intro e; injection e with e; exact hgl2c e.symm), N15.grown hg17 (by intro e; injection e with e; exact hgx2c e.symm), hgl2c, hgx2c⟩, Nr.grown hg17 (by intro e; injection e with e; omega), by omega, by omega⟩, HVS.out, HF.out, hG20, hG23⟩
              case measure => simp [intOf]; omega
        · as_aux_lemma =>
          have hltZ : ¬ (i : Int) < 30 + (M : Int) := by omega
          have hBr : Below B W4 wr := by obtain ⟨⟨_, _, _, _, h, _⟩, _⟩ := hS; exact h
          go_wp2_with fail
          refine (awake_any _).mono ?_
          rintro e w2 ⟨rfl, hb⟩
          go_wp2
          go_ret
          exact ⟨rfl, hb4.trans ((hBr.mono hwB).trans (hb.mono (Nat.le_trans hb4.size hBr.size)))⟩
end Go.Proofs.Ytkpbkahmbbkcdaa

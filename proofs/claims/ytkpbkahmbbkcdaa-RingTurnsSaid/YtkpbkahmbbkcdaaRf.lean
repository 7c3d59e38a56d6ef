/-
  The reference's groups of a junction, and its phases of a ring in a group. Conditions: groups that can be counted.
-/
import Derived.Test.YtkpbkahmbbkcdaaPb
import Derived.Test.YtkpbkahmbbkcdaaAs
import Derived.WalkMore
import Derived.Deep.LoopGhost
namespace Go.Proofs.Ytkpbkahmbbkcdaa
open Go.ChangeShapes Go.WideShapes Go.RowKit
set_option linter.unusedVariables false

theorem groups_bd {P : List Ph} (h : ∀ i, i < P.length → 0 ≤ (phAt P i).gr ∧ (phAt P i).gr ≤ 3) : ∀ k, k ≤ P.length → 0 ≤ groupsI P k ∧ groupsI P k ≤ 4
  | 0, _ => by simp [groupsI]
  | k + 1, hk => by
    have h1 := groups_bd h k (by omega)
    have h2 := h k (by omega)
    rw [groupsI]; split <;> omega
set_option maxHeartbeats 1000000 in
theorem rgroups_any (A B : Option Addr) (c d : Nat) (P : List Ph) (C : List Int) (st : Int) (w : World) (hP : Phs w w.heap.size A P) (hl : P.length ≤ 60) (hg : ∀ i, i < P.length → 0 ≤ (phAt P i).gr ∧ (phAt P i).gr ≤ 3) :
    Calls Try.prog 40 #[.agg #[.slice A P.length c, .slice B C.length d, .int .i64 st]] w fun e w' => e = .returned (.int .i64 (groupsI P P.length)) ∧ Below w.heap.size w w' := by
  have bW := lat_alloc (Below.refl w.heap.size w) (.cells #[.slice A P.length c, .slice B C.length d, .int .i64 st] 30)
  have BJ := Blk.new (w := w) (t := 30) (cs := #[.slice A P.length c, .slice B C.length d, .int .i64 st])
  have j0 := BJ.at 0 rfl
  clear BJ
  go_enter Try.func40, Try.ntmps40
  go_wp2_with fail
  have hP1 := hP.grow bW
  generalize (w.alloc (.cells #[.slice A P.length c, .slice B C.length d, .int .i64 st] 30)) = W at *
  clear j0
  go_loopw [3, 9] (fun s3 v wr => ∃ i : Nat, i ≤ P.length ∧ s3 = .int .i64 (groupsI P i) ∧ v = .int .i64 i ∧ Below W.heap.size W wr) (fun _ v _ => P.length - (intOf v).toNat)
  case atStart => exact ⟨0, by omega, rfl, rfl, Below.refl _ _⟩
  case round =>
    obtain ⟨i, hi, rfl, rfl, hbr⟩ := hrel
    by_cases hlt : i < P.length
    · have hltZ : (i : Int) < P.length := by omega
      have hPr := (hP1.grow hbr)
      obtain ⟨b, off, rfl, hbB, hph⟩ := hPr.at hlt
      obtain ⟨x0, x1, x2, x3, x4, x5, x6, x7⟩ := hph
      have hgi := hg i hlt
      have hgb := groups_bd hg i (by omega)
      have hgs := Lib.hid (show groupsI P (i + 1) = if groupsI P i < (phAt P i).gr + 1 then (phAt P i).gr + 1 else groupsI P i by rw [groupsI])
      have B5 := Blk.new (w := wr) (t := 51) (cs := #[.int .i64 (phAt P i).ri, .int .i64 (phAt P i).gr, .int .i64 (phAt P i).mn, .int .i64 (phAt P i).mx, .int .i64 (phAt P i).yl, .int .i64 (phAt P i).rd, .int .i64 (phAt P i).wk, .int .i64 (phAt P i).cl])
      have k1 := B5.at 1 rfl
      clear B5
      generalize phAt P i = p at *
      generalize groupsI P i = G at *
      have bX := lat_alloc hbr (.cells #[.int .i64 p.ri, .int .i64 p.gr, .int .i64 p.mn, .int .i64 p.mx, .int .i64 p.yl, .int .i64 p.rd, .int .i64 p.wk, .int .i64 p.cl] 51)
      by_cases hm : G < p.gr + 1
      · have zz : max G (p.gr + 1) = p.gr + 1 := by omega
        go_wp2
        go_roundw
        case rel => exact ⟨i + 1, hlt, by rw [hgs.out, if_pos hm], by go_num, bX⟩
        case measure => simp [intOf]; omega
      · have zz : max G (p.gr + 1) = G := by omega
        go_wp2
        go_roundw
        case rel => exact ⟨i + 1, hlt, by rw [hgs.out, if_neg hm], by go_num, bX⟩
        case measure => simp [intOf]; omega
    · have hltZ : ¬ (i : Int) < P.length := by omega
      have he : i = P.length := by omega
      subst he
      go_wp2
      go_ret
      exact ⟨rfl, bW.trans (hbr.mono bW.size)⟩
theorem ints_one' {k : IntKind} {w : World} {T : TypeId} {x : Int} : Ints k (w.alloc (.cells #[.int k x] T)) (w.alloc (.cells #[.int k x] T)).heap.size (some ⟨w.heap.size, 0, none⟩) [x] :=
  ints_new fun i hi => by
    have : i = 0 := by simp at hi; omega
    subst this; rfl
theorem ints_at' {k : IntKind} {w : World} {T : TypeId} {x : Int} {n : Nat} (h : n = w.heap.size) : Ints k (w.alloc (.cells #[.int k x] T)) (w.alloc (.cells #[.int k x] T)).heap.size (some ⟨n, 0, none⟩) [x] := by
  subst h; exact ints_one'
set_option maxHeartbeats 1000000 in
theorem rof_any (A B : Option Addr) (c d : Nat) (P : List Ph) (C : List Int) (st r g : Int) (w : World) (hP : Phs w w.heap.size A P) (hl : P.length ≤ 60) :
    Calls Try.prog 42 #[.agg #[.slice A P.length c, .slice B C.length d, .int .i64 st], .int .i64 r, .int .i64 g] w fun e w' => Below w.heap.size w w' ∧ ∃ (A' : Option Addr) (c' : Nat), e = .returned (.slice A' (ofL P r g P.length).length c') ∧ Ints .i64 w' w'.heap.size A' (ofL P r g P.length) := by
  have bW := lat_alloc (Below.refl w.heap.size w) (.cells #[.slice A P.length c, .slice B C.length d, .int .i64 st] 30)
  have BJ := Blk.new (w := w) (t := 30) (cs := #[.slice A P.length c, .slice B C.length d, .int .i64 st])
  have j0 := BJ.at 0 rfl
  clear BJ
  go_enter Try.func42, Try.ntmps42
  go_wp2_with fail
  have hP1 := hP.grow bW
  have hWs : w.heap.size ≤ (w.alloc (.cells #[.slice A P.length c, .slice B C.length d, .int .i64 st] 30)).heap.size := bW.size
  generalize (w.alloc (.cells #[.slice A P.length c, .slice B C.length d, .int .i64 st] 30)) = W at *
  clear j0
  go_loopw [7, 13] (fun s7 v wr => ∃ (i : Nat) (vv : Value), i ≤ P.length ∧ s7 = vv ∧ v = .int .i64 i ∧ Below W.heap.size W wr ∧ Own .i64 3 wr W.heap.size vv (ofL P r g i)) (fun _ v _ => P.length - (intOf v).toNat)
  case atStart => exact ⟨0, _, by omega, rfl, rfl, Below.refl _ _, Own.nil_ _ _ _ _⟩
  case round =>
    obtain ⟨i, v, hi, rfl, rfl, hbr, hown⟩ := hrel
    by_cases hlt : i < P.length
    · have hltZ : (i : Int) < P.length := by omega
      have hPr := (hP1.grow hbr)
      obtain ⟨b, off, rfl, hbB, hph⟩ := hPr.at hlt
      obtain ⟨x0, x1, x2, x3, x4, x5, x6, x7⟩ := hph
      have hoF := Lib.hid (show ofL P r g (i + 1) = if (phAt P i).ri = r ∧ (phAt P i).gr = g then ofL P r g i ++ [(i : Int)] else ofL P r g i by rw [ofL])
      have hle := of_le P r g i
      have B5 := Blk.new (w := wr) (t := 51) (cs := #[.int .i64 (phAt P i).ri, .int .i64 (phAt P i).gr, .int .i64 (phAt P i).mn, .int .i64 (phAt P i).mx, .int .i64 (phAt P i).yl, .int .i64 (phAt P i).rd, .int .i64 (phAt P i).wk, .int .i64 (phAt P i).cl])
      have k0 := B5.at 0 rfl
      have k1 := B5.at 1 rfl
      clear B5
      generalize phAt P i = p at *
      have bX := lat_alloc hbr (.cells #[.int .i64 p.ri, .int .i64 p.gr, .int .i64 p.mn, .int .i64 p.mx, .int .i64 p.yl, .int .i64 p.rd, .int .i64 p.wk, .int .i64 p.cl] 51)
      by_cases h1 : p.ri = r
      · by_cases h2 : p.gr = g
        · have y1 : (p.ri == r) = true := by simpa using h1
          have y2 : (p.gr == g) = true := by simpa using h2
          have hoE := Lib.hid (show ofL P r g (i + 1) = ofL P r g i ++ [(i : Int)] by rw [hoF.out, if_pos ⟨h1, h2⟩])
          clear h1 h2
          clear hoF
          generalize ofL P r g i = O at *
          go_wp2_with (at_builtin; refine wpList_append_ints rfl (.tmp 28) (.tmp 30) _ rfl W.heap.size 3 .i64 8 Try.underlying23 int_info _ O rfl ((hown.alloc _).alloc _) _ 1 [(i : Int)] 1 rfl rfl (ints_at' (by rw [heap_size])) (by simp; omega) (by omega) (by rw [heap_size, heap_size]; have := hbr.size; omega) ?_; intro v3 w3 hown3 hg3 hat3; have hb3 : Below W.heap.size W w3 := ((bX).alloc bX.size _).grown hg3 ((bX).alloc bX.size _).size (fun k hk => (hown.lt hk).1))
          go_roundw
          case rel => exact ⟨i + 1, v3, hlt, rfl, by go_num, hb3, by rw [hoE.out]; exact hown3⟩
          case measure => simp [intOf]; omega
        · have y1 : (p.ri == r) = true := by simpa using h1
          have y2 : (p.gr == g) = false := by simpa using h2
          have hoE := Lib.hid (show ofL P r g (i + 1) = ofL P r g i by rw [hoF.out, if_neg (fun h => h2 h.2)])
          clear h1 h2
          clear hoF
          go_wp2
          go_roundw
          case rel => exact ⟨i + 1, _, hlt, rfl, by go_num, bX, by rw [hoE.out]; exact hown.alloc _⟩
          case measure => simp [intOf]; omega
      · have y1 : (p.ri == r) = false := by simpa using h1
        have hoE := Lib.hid (show ofL P r g (i + 1) = ofL P r g i by rw [hoF.out, if_neg (fun h => h1 h.1)])
        clear h1
        clear hoF
        go_wp2
        go_roundw
        case rel => exact ⟨i + 1, _, hlt, rfl, by go_num, bX, by rw [hoE.out]; exact hown.alloc _⟩
        case measure => simp [intOf]; omega
    · have hltZ : ¬ (i : Int) < P.length := by omega
      have he : i = P.length := by omega
      subst he
      obtain ⟨A', c', hv, _, _, hI⟩ := hown.ints
      subst hv
      go_wp2
      go_ret
      exact ⟨bW.trans (hbr.mono bW.size), A', ⟨c', rfl⟩, hI⟩
theorem rof_n (A B : Option Addr) (c d n m : Nat) (P : List Ph) (st r g : Int) (w : World) (hn : P.length = n) (hP : Phs w w.heap.size A P) (hl : n ≤ 60) :
    Calls Try.prog 42 #[.agg #[.slice A n c, .slice B m d, .int .i64 st], .int .i64 r, .int .i64 g] w fun e w' => ∃ (A' : Option Addr) (c' : Nat), e = .returned (.slice A' (ofL P r g n).length c') ∧ Below w.heap.size w w' ∧ Ints .i64 w' w'.heap.size A' (ofL P r g n) := by
  subst hn
  have := rof_any A B c d P (List.replicate m 0) st r g w hP hl
  rw [List.length_replicate] at this
  exact this.mono fun e w' ⟨h1, A', c', h2, h3⟩ => ⟨A', c', h2, h1, h3⟩
theorem rgroups_n (A B : Option Addr) (c d n m : Nat) (P : List Ph) (st : Int) (w : World) (hn : P.length = n) (hP : Phs w w.heap.size A P) (hl : n ≤ 60) (hg : ∀ i, i < n → 0 ≤ (phAt P i).gr ∧ (phAt P i).gr ≤ 3) :
    Calls Try.prog 40 #[.agg #[.slice A n c, .slice B m d, .int .i64 st]] w fun e w' => e = .returned (.int .i64 (groupsI P n)) ∧ Below w.heap.size w w' := by
  subst hn
  have := rgroups_any A B c d P (List.replicate m 0) st w hP hl hg
  rw [List.length_replicate] at this
  exact this
theorem of_pos (P : List Ph) (r g : Int) : ∀ k, 0 < (ofL P r g k).length ↔ ∃ i, i < k ∧ (phAt P i).ri = r ∧ (phAt P i).gr = g
  | 0 => by simp [ofL]
  | k + 1 => by
    have ih := of_pos P r g k
    rw [ofL]
    split
    · rename_i h
      simp only [List.length_append, List.length_singleton]
      exact ⟨fun _ => ⟨k, by omega, h⟩, fun _ => by omega⟩
    · rename_i h
      rw [ih]
      constructor
      · rintro ⟨i, hi, hh⟩; exact ⟨i, by omega, hh⟩
      · rintro ⟨i, hi, hh⟩
        by_cases e : i = k
        · subst e; exact absurd hh h
        · exact ⟨i, by omega, hh⟩
end Go.Proofs.Ytkpbkahmbbkcdaa

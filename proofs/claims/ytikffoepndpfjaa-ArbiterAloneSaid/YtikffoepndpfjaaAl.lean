/-
  The law ArbiterAlone answers true: its walk. Conditions: none.
-/
import Derived.Test.YtikffoepndpfjaaEn
namespace Go.Proofs.Ytikffoepndpfjaa
open Go.ChangeShapes Go.WideShapes Go.RowKit
set_option linter.unusedVariables false

/-- The claim that is alone. -/
def aloneC (p cl : Int) : Cl := ⟨0, 0, p, cl, 0⟩
/-- It may be served. -/
def Sv (cl ended lock N : Int) : Prop := emB cl = true ∨ ended = -1 ∨ N - ended > lock
instance (cl ended lock N : Int) : Decidable (Sv cl ended lock N) := by unfold Sv; infer_instance
theorem at_rep {n k : Nat} (h : k < n) : at_ (List.replicate n (-1)) k = -1 := by simp [at_, h]
structure AInv (p cl hold lock N ph gr green ended : Int) (E : List Int) : Prop where
  st : (ph = p ∧ gr = green ∧ Sv cl ended lock (N - 1)) ∨ (ph = -1 ∧ gr = 0 ∧ green = 0)
  g0 : 0 ≤ green
  g1 : green ≤ hold
  e : at_ E p.toNat = ended
theorem best_alone (per cap lock : Int) (E : List Int) (N p cl : Int) : bestK per cap lock E N [aloneC p cl] 1 = if lockB lock E p cl N then -1 else 0 := by
  show (if lockC lock E N (clAt [aloneC p cl] 0) then bestK per cap lock E N [aloneC p cl] 0 else if bestK per cap lock E N [aloneC p cl] 0 < 0 then ((0 : Nat) : Int) else _) = _
  rfl
theorem lock_alone {lock : Int} {E : List Int} {N p cl ended : Int} (hp : 0 ≤ p ∧ p < E.length) (he : at_ E p.toNat = ended) : lockB lock E p cl N = !(decide (Sv cl ended lock N)) := by
  have hend : endV E p = ended := by unfold endV; rw [if_neg (by omega)]; exact he
  unfold lockB Sv
  rw [hend]
  rcases Bool.eq_false_or_eq_true (emB cl) with hem | hem <;> by_cases h1 : ended = -1 <;> by_cases h2 : N - ended ≤ lock <;> simp [hem, h1, h2] <;> omega
/-- What a tick does with a claim that is alone. -/
theorem alone_step {per cap hold lock p cl N ph gr green ended : Int} {E : List Int} {n : Nat} (h : AInv p cl hold lock N ph gr green ended E) (hn : E.length = n) (hp : 0 ≤ p ∧ p < n) (hE : ∀ x ∈ E, -1 ≤ x ∧ x < N) (hh : 1 ≤ hold ∧ hold ≤ 4) (hl : 0 ≤ lock) (hN : 1 ≤ N) :
    ∃ (P G : Int) (E9 : List Int), decT per cap hold lock ph gr E [aloneC p cl] N = (P, G, E9) ∧ E9.length = n ∧ (∀ x ∈ E9, -1 ≤ x ∧ x ≤ N) ∧
      ((at_ E9 p.toNat = ended ∧ Sv cl ended lock N ∧ P = p ∧ G = green ∧ green < hold) ∨ (at_ E9 p.toNat = ended ∧ ¬ Sv cl ended lock N ∧ P = -1 ∧ G = 0 ∧ green = 0) ∨
        (green = hold ∧ at_ E9 p.toNat = N ∧ ended ≠ N ∧ emB cl = true ∧ P = p ∧ G = 0) ∨ (green = hold ∧ at_ E9 p.toNat = N ∧ ended ≠ N ∧ emB cl = false ∧ P = -1 ∧ G = 0)) := by
  have hpl : p.toNat < E.length := by omega
  have hep := hE _ (at_mem hpl)
  rw [h.e] at hep
  have hg0 := h.g0
  have hg1 := h.g1
  have hle : ∀ x ∈ E, -1 ≤ x ∧ x ≤ N := fun x hx => by have := hE x hx; omega
  rcases h.st with ⟨rfl, rfl, hK⟩ | ⟨rfl, rfl, rfl⟩
  · have hov : overB hold ph gr [aloneC ph cl] = decide (hold ≤ gr) := by
      unfold overB aloneC
      cases emB cl <;> simp
    by_cases hq : hold ≤ gr
    · -- it ends
      have hM : midT hold ph gr E [aloneC ph cl] N = (-1, 0, E.set ph.toNat N) := by
        unfold midT
        rw [if_pos ⟨by omega, by rw [hov]; simpa using hq⟩]
        unfold endE
        rw [if_pos ⟨by omega, by omega, by omega⟩]
      have hat : at_ (E.set ph.toNat N) ph.toNat = N := by simp [at_, hpl]
      have hset : ∀ x ∈ E.set ph.toNat N, -1 ≤ x ∧ x ≤ N := fun x hx => by
        rcases List.mem_or_eq_of_mem_set hx with h1 | rfl
        · exact hle x h1
        · omega
      have hlk := lock_alone (lock := lock) (cl := cl) (N := N) (E := E.set ph.toNat N) (p := ph) (by rw [List.length_set]; omega) hat
      have hSv : decide (Sv cl N lock N) = emB cl := by
        unfold Sv
        rcases Bool.eq_false_or_eq_true (emB cl) with hem | hem <;> simp [hem] <;> omega
      rw [hSv] at hlk
      have hb := best_alone per cap lock (E.set ph.toNat N) N ph cl
      rw [hlk] at hb
      cases hem : emB cl with
      | true =>
        rw [hem] at hb
        have hD : decT per cap hold lock ph gr E [aloneC ph cl] N = (ph, 0, E.set ph.toNat N) := by
          unfold decT
          rw [hM]
          simp only [ne_eq, not_true_eq_false, if_false]
          show (if 0 ≤ bestK per cap lock (E.set ph.toNat N) N [aloneC ph cl] 1 then ((clAt [aloneC ph cl] (bestK per cap lock (E.set ph.toNat N) N [aloneC ph cl] 1).toNat).ph, 0, E.set ph.toNat N) else _) = _
          rw [hb]
          rfl
        exact ⟨_, _, _, hD, by simp [hn], hset, .inr (.inr (.inl ⟨by omega, hat, by omega, rfl, rfl, rfl⟩))⟩
      | false =>
        rw [hem] at hb
        have hD : decT per cap hold lock ph gr E [aloneC ph cl] N = (-1, 0, E.set ph.toNat N) := by
          unfold decT
          rw [hM]
          simp only [ne_eq, not_true_eq_false, if_false]
          show (if 0 ≤ bestK per cap lock (E.set ph.toNat N) N [aloneC ph cl] 1 then _ else _) = _
          rw [hb]
          rfl
        exact ⟨_, _, _, hD, by simp [hn], hset, .inr (.inr (.inr ⟨by omega, hat, by omega, rfl, rfl, rfl⟩))⟩
    · have hM : midT hold ph gr E [aloneC ph cl] N = (ph, gr, E) := by
        unfold midT
        rw [if_neg (by rw [hov]; simp; omega)]
      have hD : decT per cap hold lock ph gr E [aloneC ph cl] N = (ph, gr, E) := by
        unfold decT
        rw [hM, if_pos (show (ph, gr, E).1 ≠ -1 by show ph ≠ -1; omega)]
      exact ⟨_, _, _, hD, hn, hle, .inl ⟨h.e, Or.imp id (Or.imp id (fun h1 => by omega)) hK, rfl, rfl, by omega⟩⟩
  · have hM : midT hold (-1) 0 E [aloneC p cl] N = (-1, 0, E) := by
      unfold midT
      rw [if_neg (by simp)]
    have hlk := lock_alone (lock := lock) (cl := cl) (N := N) (E := E) (p := p) (by omega) h.e
    have hb := best_alone per cap lock E N p cl
    rw [hlk] at hb
    by_cases hS : Sv cl ended lock N
    · have hD : decT per cap hold lock (-1) 0 E [aloneC p cl] N = (p, 0, E) := by
        unfold decT
        rw [hM]
        simp only [ne_eq, not_true_eq_false, if_false]
        show (if 0 ≤ bestK per cap lock E N [aloneC p cl] 1 then ((clAt [aloneC p cl] (bestK per cap lock E N [aloneC p cl] 1).toNat).ph, 0, E) else _) = _
        rw [hb, show decide (Sv cl ended lock N) = true by simpa using hS]
        rfl
      exact ⟨_, _, _, hD, hn, hle, .inl ⟨h.e, hS, rfl, rfl, by omega⟩⟩
    · have hD : decT per cap hold lock (-1) 0 E [aloneC p cl] N = (-1, 0, E) := by
        unfold decT
        rw [hM]
        simp only [ne_eq, not_true_eq_false, if_false]
        show (if 0 ≤ bestK per cap lock E N [aloneC p cl] 1 then _ else _) = _
        rw [hb, show decide (Sv cl ended lock N) = false by simpa using hS]
        rfl
      exact ⟨_, _, _, hD, hn, hle, .inr (.inl ⟨h.e, hS, rfl, rfl, rfl⟩)⟩

set_option maxRecDepth 20000 in
set_option maxHeartbeats 40000000 in
theorem alonelaw_any (D : Option Addr) (d : Nat) (l : List Int) (cls : Int) (w : World) (hs : Ints .i64 w w.heap.size D l) (hn0 : Nums l) (hl : l.length ≤ 9223372036854775807) (cl0 : -9223372036854775808 ≤ cls) (cl1 : cls ≤ 9223372036854775807) :
    Calls Try.prog 6 #[.slice D l.length d, .int .i64 cls] w fun e w' => e = .returned (.bool true) ∧ Below w.heap.size w w' := by
  go_enter Try.func6, Try.ntmps6
  go_wp2_with fail
  refine (new_ok D l d w hs hn0 hl).mono ?_
  rintro e w1 ⟨rfl, hd1, hb1, hlt1⟩
  obtain ⟨g, hgg⟩ : ∃ g, w.heap.size = g := ⟨_, rfl⟩
  have hgw : w.heap.size ≤ g := by omega
  have hgw' : g ≤ w.heap.size := by omega
  rw [hgg] at hd1 hlt1 ⊢
  have HGG := Lib.hid hgg
  clear hgg
  have hb1 : Below w.heap.size w w1 := hb1
  go_wp2_with fail
  refine (range_s g 1 5 w1 hd1 (by omega) (by omega) (by omega)).mono ?_
  rintro e w2 ⟨hG2, hd2, per, p0, p1, rfl⟩
  go_wp2_with fail
  refine (next_s g 6 w2 hd2 (by omega) (by omega)).mono ?_
  rintro e w3 ⟨hG3, hd3, cap, q0, q1, rfl⟩
  go_wp2_with fail
  refine (range_s g 1 4 w3 hd3 (by omega) (by omega) (by omega)).mono ?_
  rintro e w4 ⟨hG4, hd4, hold, s0, s1, rfl⟩
  go_wp2_with fail
  refine (next_s g 7 w4 hd4 (by omega) (by omega)).mono ?_
  rintro e w5 ⟨hG5, hd5, lock, t0, t1, rfl⟩
  have hB5 := (((hG2.trans hG3).trans hG4).trans hG5).base hb1 hgw
  go_wp2_with fail
  have bA := lat_alloc (Below.refl w5.heap.size w5) (.cells #[.slice none 0 0, .slice none 0 0, .int .i64 per, .int .i64 cap, .int .i64 hold, .int .i64 lock] 33)
  have BC6 := Blk.new (w := w5) (t := 33) (cs := #[.slice none 0 0, .slice none 0 0, .int .i64 per, .int .i64 cap, .int .i64 hold, .int .i64 lock])
  have hd6 := hd5.below bA
  have hB6 := hB5.trans (bA.mono hB5.size)
  have hgl5 := hd5.lt
  generalize w5.alloc (.cells #[.slice none 0 0, .slice none 0 0, .int .i64 per, .int .i64 cap, .int .i64 hold, .int .i64 lock] 33) = w6 at *
  have hcl6 := BC6.lt
  generalize w5.heap.size = gc at *
  refine (range_s g 1 6 w6 hd6 (by omega) (by omega) (by omega)).mono ?_
  rintro e w7 ⟨hG7, hd7, nn, n0, n1, rfl⟩
  obtain ⟨n, rfl⟩ := Int.eq_ofNat_of_zero_le (show 0 ≤ nn by omega)
  go_wp2_with fail
  refine (next_s g n w7 hd7 (by omega) (by omega)).mono ?_
  rintro e w8 ⟨hG8, hd8, p, pl, pu, rfl⟩
  go_wp2_with fail
  refine (mod_any cls 4 (by omega) (by omega) cl0 cl1 _).mono ?_; rintro e w' ⟨rfl, hw'⟩; subst hw'
  have hcl := modI_bd cls 4 (by omega)
  generalize modI cls 4 = cl at *
  have hB8 := (hG7.trans hG8).base hB6 hgw
  have BC8 := (hG7.trans hG8).blk BC6 (show gc ≠ g by omega)
  have bK := lat_alloc (Below.refl w8.heap.size w8) (.cells #[.int .i64 0, .int .i64 0, .int .i64 p, .int .i64 cl, .int .i64 0] 47)
  have BK9 := Blk.new (w := w8) (t := 47) (cs := #[.int .i64 0, .int .i64 0, .int .i64 p, .int .i64 cl, .int .i64 0])
  have BC9 := BC8.below bK
  have hB9 := hB8.trans (bK.mono hB8.size)
  go_wp2_with fail
  have hs78 := (hG7.trans hG8).size
  have hcl8 := BC8.lt
  have hw8 := hB8.size
  generalize w8.alloc (.cells #[.int .i64 0, .int .i64 0, .int .i64 p, .int .i64 cl, .int .i64 0] 47) = w9 at *
  have hkl9 := BK9.lt
  generalize w8.heap.size = gk at *
  refine (new_any n w9 (by omega)).mono ?_
  rintro e w10 ⟨A10, c10, rfl, hb10, own10⟩
  have hs10 := hb10.size
  have BC10 := BC9.below hb10
  have BK10 := BK9.below hb10
  have bS := lat_alloc (Below.refl w10.heap.size w10) (.cells #[.int .i64 (-1), .int .i64 0, .slice A10 n c10] 24)
  have BS := Blk.new (w := w10) (t := 24) (cs := #[.int .i64 (-1), .int .i64 0, .slice A10 n c10])
  have BC11 := BC10.below bS
  have BK11 := BK10.below bS
  have hI11 := own10.intsN.1.grow bS
  have hfar11 : ∀ a, A10 = some a → a.block ≠ w10.heap.size := fun a ha => by
    subst ha
    have := own10.lt rfl
    omega
  have hB11 := hB9.trans ((hb10.trans (bS.mono hb10.size)).mono hB9.size)
  go_wp2_with fail
  generalize w10.alloc (.cells #[.int .i64 (-1), .int .i64 0, .slice A10 n c10] 24) = W0 at *
  generalize w10.heap.size = g9 at *
  have hg9c : gc < g9 := by omega
  have hg9k : gk < g9 := by omega
  have hgcw : w.heap.size ≤ gc := by omega
  have hgck : gc < gk := by omega
  clear hG2 hG3 hG4 hG5 hG7 hG8 hd1 hd2 hd3 hd4 hd5 hd6 hd7 hd8 hb1 hB5 hB6 hB8 hB9 BC6 BC8 BC9 BC10 BK9 BK10 bA bK bS hb10 own10 hs hcl6 hcl8 hkl9 hs78 hs10 HGG hlt1 hgl5
  go_loopw [10, 11, 12] (fun vg ve vn wr => ∃ (N : Nat) (ph gr green ended : Int) (A : Option Addr) (c : Nat) (E : List Int), 1 ≤ N ∧ N ≤ 40 ∧ vn = .int .i64 N ∧ vg = .int .i64 green ∧ ve = .int .i64 ended ∧ AInv p cl hold lock N ph gr green ended E ∧ (∀ x ∈ E, -1 ≤ x ∧ x < N) ∧ E.length = n ∧ Blk wr gc 33 #[.slice none 0 0, .slice none 0 0, .int .i64 per, .int .i64 cap, .int .i64 hold, .int .i64 lock] ∧ Blk wr gk 47 #[.int .i64 0, .int .i64 0, .int .i64 p, .int .i64 cl, .int .i64 0] ∧ Blk wr g9 24 #[.int .i64 ph, .int .i64 gr, .slice A n c] ∧ Ints .i64 wr wr.heap.size A E ∧ (∀ a, A = some a → a.block ≠ g9) ∧ Below w.heap.size w wr) (fun _ _ vn _ => 40 - (intOf vn).toNat)
  case atStart => exact ⟨1, -1, 0, 0, -1, A10, c10, List.replicate n (-1), by omega, by omega, rfl, rfl, rfl, ⟨.inr ⟨rfl, rfl, rfl⟩, by omega, by omega, at_rep (by omega)⟩, (fun x hx => by rw [List.mem_replicate] at hx; omega), List.length_replicate, BC11, BK11, BS, hI11, hfar11, hB11⟩
  case round =>
    obtain ⟨N, ph, gr, green, ended, A, c, E, hN, hN2, rfl, rfl, rfl, hinv, hEu, hE, BC, BK, B9, hI, hfar, bz⟩ := hrel
    by_cases hlt : N < 40
    · have hlt' : (N : Int) < 40 := by omega
      have hcl1 := BC.lt
      have bL := lat_alloc (Below.refl wr.heap.size wr) (.cells #[.int .i64 0, .int .i64 0, .int .i64 p, .int .i64 cl, .int .i64 0] 47)
      have BL := Blk.new (w := wr) (t := 47) (cs := #[.int .i64 0, .int .i64 0, .int .i64 p, .int .i64 cl, .int .i64 0])
      have LC := BC.below bL
      have LK := BK.below bL
      have L9 := B9.below bL
      have LI := hI.grow bL
      have Lz := bz.trans (bL.mono bz.size)
      have hCL : Cls (wr.alloc (.cells #[.int .i64 0, .int .i64 0, .int .i64 p, .int .i64 cl, .int .i64 0] 47)) (wr.alloc (.cells #[.int .i64 0, .int .i64 0, .int .i64 p, .int .i64 cl, .int .i64 0] 47)).heap.size (some ⟨wr.heap.size, 0, none⟩) [aloneC p cl] := fun _ => ⟨wr.heap.size, 0, rfl, BL.lt, fun i hi => by
        simp at hi; subst hi
        exact ⟨BL.at 0 rfl, BL.at 1 rfl, BL.at 2 rfl, BL.at 3 rfl, BL.at 4 rfl⟩⟩
      have hok : AllOk [aloneC p cl] := fun x hx => by simp at hx; subst hx; exact ⟨by show 0 ≤ p ∧ p ≤ 1000; omega, by show 0 ≤ cl ∧ cl ≤ 3; omega, by show (0 : Int) ≤ 0 ∧ (0 : Int) ≤ 10000; omega⟩
      have hSE : Small E := fun x hx => by have := hEu x hx; omega
      have hdec := decide_any per cap hold lock ph gr A n c E (some ⟨wr.heap.size, 0, none⟩) 1 [aloneC p cl] N _ hE LI (by omega) (by omega) hSE (by omega) (by omega) (by omega) (by omega) hCL hok (by simp)
      have hst := alone_step (per := per) (cap := cap) (p := p) (cl := cl) (N := N) (ph := ph) hinv hE (by omega) hEu (by omega) (by omega) (by omega)
      have hi0 := hinv.g0
      have hi1 := hinv.g1
      have hlw := BL.lt
      have hlw9 := B9.lt
      obtain ⟨P, G, E9, hD, hE9, hE9u, hst⟩ := hst
      have hep := hEu _ (at_mem (l := E) (i := p.toNat) (by omega))
      rw [hinv.e] at hep
      rw [hD] at hdec
      clear hD hinv hE hSE hEu
      have q0 := BC.at 0 rfl
      have q1 := BC.at 1 rfl
      have q2 := BC.at 2 rfl
      have q3 := BC.at 3 rfl
      have q4 := BC.at 4 rfl
      have q5 := BC.at 5 rfl
      have s0 := BK.at 0 rfl
      have s1 := BK.at 1 rfl
      have s2 := BK.at 2 rfl
      have s3 := BK.at 3 rfl
      have s4 := BK.at 4 rfl
      have o0 := B9.at 0 rfl
      have o1 := B9.at 1 rfl
      have o2 := B9.at 2 rfl
      go_wp2_with fail
      clear q0 q1 q2 q3 q4 q5 s0 s1 s2 s3 s4 o0 o1 o2
      generalize wr.alloc (.cells #[.int .i64 0, .int .i64 0, .int .i64 p, .int .i64 cl, .int .i64 0] 47) = wl at *
      refine hdec.mono ?_
      rintro e w4 ⟨A5, c5, rfl, hb4, own4⟩
      have hs4 := hb4.size
      have S4 := L9.below hb4
      have SC4 := LC.below hb4
      have SK4 := LK.below hb4
      have bz4 := Lz.trans (hb4.mono Lz.size)
      have hE9u2 : ∀ x ∈ E9, -1 ≤ x ∧ x < ((N + 1 : Nat) : Int) := fun x hx => by have := hE9u x hx; omega
      obtain ⟨k, rfl⟩ := Int.eq_ofNat_of_zero_le pl
      have hkE : k < E9.length := by omega
      have HE9 := Lib.hid hE9
      clear hdec hE9
      simp only [Int.toNat_natCast] at hst
      have hl9 := L9.lt
      obtain ⟨b5, o5, hA5, hb5, hc4⟩ := (own4.intsN.1).sub hkE
      subst hA5
      have hbl := (own4.lt rfl).1
      have hbl : wl.heap.size ≤ b5 := hbl
      obtain ⟨x9, hx9e⟩ : ∃ x9, at_ E9 k = x9 := ⟨_, rfl⟩
      rw [hx9e] at hst hc4
      have HX0 := Lib.hid hx9e
      clear hx9e
      rcases hst with ⟨hx9, hSv, rfl, rfl, hgh⟩ | ⟨hx9, hSv, rfl, rfl, hgz⟩ | ⟨hgh, hx9, hne, hem, rfl, rfl⟩ | ⟨hgh, hx9, hne, hem, rfl, rfl⟩
      · have HX9 : Hid (at_ E9 k = ended) := Lib.hid (by rw [HX0.out, hx9])
        clear HX0
        cases hem : emB cl with
        | true =>
          have zx : (x9 != ended) = false := by simpa using hx9
          clear hx9
          go_wp2_with (show wpList _ _ _ (Oper.mk none (.store _ (.tmp 9) (.tmp 44)) _ _ _ _ :: _) _ _; refine wpList_store3 rfl rfl rfl rfl rfl S4 ⟨rfl, rfl, rfl⟩ ⟨_, _, rfl⟩ ⟨_, _, rfl⟩ ⟨_, _, _, rfl⟩ ?_; intro w5 S5 g5; have SC5 := SC4.grown g5 (by intro e; injection e with e; omega); have SK5 := SK4.grown g5 (by intro e; injection e with e; omega); have own5 := own4.block (w' := w5) (fun b hb => g5.block b (own4.lt hb).2 (by have := (own4.lt hb).1; intro e; injection e with e; omega)); have bz5 := bz4.grown g5 bz4.size (fun k e => by injection e with e; omega); have hc5 : w5.cell? ⟨b5, o5 + k, none⟩ = some (.int .i64 x9) := (World.cell?_of_block (g5.block b5 hb5 (by intro e; injection e with e; omega))).trans hc4; have o0 := S5.at 0 rfl; have o1 := S5.at 1 rfl; have o2 := S5.at 2 rfl; have q0 := SC5.at 0 rfl; have q1 := SC5.at 1 rfl; have q2 := SC5.at 2 rfl; have q3 := SC5.at 3 rfl; have q4 := SC5.at 4 rfl; have q5 := SC5.at 5 rfl; have s0 := SK5.at 0 rfl; have s1 := SK5.at 1 rfl; have s2 := SK5.at 2 rfl; have s3 := SK5.at 3 rfl; have s4 := SK5.at 4 rfl)
          clear o0 o1 o2 q0 q1 q2 q3 q4 q5 s0 s1 s2 s3 s4
          refine (em_c ⟨0, 0, k, cl, 0⟩ w5 hem).mono ?_
          rintro e w6 ⟨rfl, hb6⟩
          have X9 := S5.below hb6
          have XC := SC5.below hb6
          have XK := SK5.below hb6
          have Xz := bz5.trans (hb6.mono bz5.size)
          have Xo := own5.below (hb6.mono (Nat.le_refl _))
          have o0 := X9.at 0 rfl
          have o1 := X9.at 1 rfl
          have o2 := X9.at 2 rfl
          have q0 := XC.at 0 rfl
          have q1 := XC.at 1 rfl
          have q2 := XC.at 2 rfl
          have q3 := XC.at 3 rfl
          have q4 := XC.at 4 rfl
          have q5 := XC.at 5 rfl
          have s0 := XK.at 0 rfl
          have s1 := XK.at 1 rfl
          have s2 := XK.at 2 rfl
          have s3 := XK.at 3 rfl
          have s4 := XK.at 4 rfl
          have hs5 := g5.size
          have hs6 := hb6.size
          go_wp2_with fail
          refine (count_any (k : Int) G (some ⟨b5, o5, none⟩) n c5 E9 true w6 (Xo.intsN).2 (Xo.intsN).1 (by omega) (by omega) (by omega)).mono ?_
          rintro e w7 ⟨A7, c7, rfl, hb7, own7⟩
          have Y9 := X9.below hb7
          have YC := XC.below hb7
          have YK := XK.below hb7
          have Yz := Xz.trans (hb7.mono Xz.size)
          have hs7 := hb7.size
          clear o0 o1 o2 q0 q1 q2 q3 q4 q5 s0 s1 s2 s3 s4
          go_wp2_with (show wpList _ _ _ (Oper.mk none (.store _ (.tmp 9) (.tmp 104)) _ _ _ _ :: _) _ _; refine wpList_store3 rfl rfl rfl rfl rfl Y9 ⟨rfl, rfl, rfl⟩ ⟨_, _, rfl⟩ ⟨_, _, rfl⟩ ⟨_, _, _, rfl⟩ ?_; intro w8 S8 g8; have SC8 := YC.grown g8 (by intro e; injection e with e; omega); have SK8 := YK.grown g8 (by intro e; injection e with e; omega); have own8 := own7.block (w' := w8) (fun b hb => g8.block b (own7.lt hb).2 (by have := (own7.lt hb).1; intro e; injection e with e; omega)); have bz8 := Yz.grown g8 Yz.size (fun k e => by injection e with e; omega))
          go_roundw
          case rel => exact ⟨N + 1, (k : Int), _, (G + 1), ended, A7, c7, E9, by omega, by omega, by go_num, (by first | rfl | go_num), (by first | rfl | go_num), ⟨.inl ⟨rfl, (by unfold grC; rw [if_pos ⟨rfl, by omega⟩]; omega), .inl hem⟩, by omega, by omega, (by rw [Int.toNat_natCast, HX9.out])⟩, hE9u2, (own8.intsN).2, SC8, SK8, S8, (own8.intsN).1, (fun a ha => by subst ha; have := (own8.lt rfl).1; omega), bz8⟩
          case measure => simp [intOf]; omega
        | false =>
          rcases hSv with h1 | h2 | h3
          · rw [hem] at h1; cases h1
          · subst h2
            have zx : (x9 != (-1 : Int)) = false := by simpa using hx9
            clear hx9
            go_wp2_with (show wpList _ _ _ (Oper.mk none (.store _ (.tmp 9) (.tmp 44)) _ _ _ _ :: _) _ _; refine wpList_store3 rfl rfl rfl rfl rfl S4 ⟨rfl, rfl, rfl⟩ ⟨_, _, rfl⟩ ⟨_, _, rfl⟩ ⟨_, _, _, rfl⟩ ?_; intro w5 S5 g5; have SC5 := SC4.grown g5 (by intro e; injection e with e; omega); have SK5 := SK4.grown g5 (by intro e; injection e with e; omega); have own5 := own4.block (w' := w5) (fun b hb => g5.block b (own4.lt hb).2 (by have := (own4.lt hb).1; intro e; injection e with e; omega)); have bz5 := bz4.grown g5 bz4.size (fun k e => by injection e with e; omega); have hc5 : w5.cell? ⟨b5, o5 + k, none⟩ = some (.int .i64 x9) := (World.cell?_of_block (g5.block b5 hb5 (by intro e; injection e with e; omega))).trans hc4; have o0 := S5.at 0 rfl; have o1 := S5.at 1 rfl; have o2 := S5.at 2 rfl; have q0 := SC5.at 0 rfl; have q1 := SC5.at 1 rfl; have q2 := SC5.at 2 rfl; have q3 := SC5.at 3 rfl; have q4 := SC5.at 4 rfl; have q5 := SC5.at 5 rfl; have s0 := SK5.at 0 rfl; have s1 := SK5.at 1 rfl; have s2 := SK5.at 2 rfl; have s3 := SK5.at 3 rfl; have s4 := SK5.at 4 rfl)
            clear o0 o1 o2 q0 q1 q2 q3 q4 q5 s0 s1 s2 s3 s4
            refine (em_c ⟨0, 0, k, cl, 0⟩ w5 hem).mono ?_
            rintro e w6 ⟨rfl, hb6⟩
            have X9 := S5.below hb6
            have XC := SC5.below hb6
            have XK := SK5.below hb6
            have Xz := bz5.trans (hb6.mono bz5.size)
            have Xo := own5.below (hb6.mono (Nat.le_refl _))
            have o0 := X9.at 0 rfl
            have o1 := X9.at 1 rfl
            have o2 := X9.at 2 rfl
            have q0 := XC.at 0 rfl
            have q1 := XC.at 1 rfl
            have q2 := XC.at 2 rfl
            have q3 := XC.at 3 rfl
            have q4 := XC.at 4 rfl
            have q5 := XC.at 5 rfl
            have s0 := XK.at 0 rfl
            have s1 := XK.at 1 rfl
            have s2 := XK.at 2 rfl
            have s3 := XK.at 3 rfl
            have s4 := XK.at 4 rfl
            have hs5 := g5.size
            have hs6 := hb6.size
            go_wp2_with fail
            refine (count_any (k : Int) G (some ⟨b5, o5, none⟩) n c5 E9 true w6 (Xo.intsN).2 (Xo.intsN).1 (by omega) (by omega) (by omega)).mono ?_
            rintro e w7 ⟨A7, c7, rfl, hb7, own7⟩
            have Y9 := X9.below hb7
            have YC := XC.below hb7
            have YK := XK.below hb7
            have Yz := Xz.trans (hb7.mono Xz.size)
            have hs7 := hb7.size
            clear o0 o1 o2 q0 q1 q2 q3 q4 q5 s0 s1 s2 s3 s4
            go_wp2_with (show wpList _ _ _ (Oper.mk none (.store _ (.tmp 9) (.tmp 104)) _ _ _ _ :: _) _ _; refine wpList_store3 rfl rfl rfl rfl rfl Y9 ⟨rfl, rfl, rfl⟩ ⟨_, _, rfl⟩ ⟨_, _, rfl⟩ ⟨_, _, _, rfl⟩ ?_; intro w8 S8 g8; have SC8 := YC.grown g8 (by intro e; injection e with e; omega); have SK8 := YK.grown g8 (by intro e; injection e with e; omega); have own8 := own7.block (w' := w8) (fun b hb => g8.block b (own7.lt hb).2 (by have := (own7.lt hb).1; intro e; injection e with e; omega)); have bz8 := Yz.grown g8 Yz.size (fun k e => by injection e with e; omega))
            go_roundw
            case rel => exact ⟨N + 1, (k : Int), _, (G + 1), (-1), A7, c7, E9, by omega, by omega, by go_num, (by first | rfl | go_num), (by first | rfl | go_num), ⟨.inl ⟨rfl, (by unfold grC; rw [if_pos ⟨rfl, by omega⟩]; omega), .inr (.inl rfl)⟩, by omega, by omega, (by rw [Int.toNat_natCast, HX9.out])⟩, hE9u2, (own8.intsN).2, SC8, SK8, S8, (own8.intsN).1, (fun a ha => by subst ha; have := (own8.lt rfl).1; omega), bz8⟩
            case measure => simp [intOf]; omega
          · by_cases h2 : ended = -1
            · subst h2
              have zx : (x9 != (-1 : Int)) = false := by simpa using hx9
              clear hx9
              go_wp2_with (show wpList _ _ _ (Oper.mk none (.store _ (.tmp 9) (.tmp 44)) _ _ _ _ :: _) _ _; refine wpList_store3 rfl rfl rfl rfl rfl S4 ⟨rfl, rfl, rfl⟩ ⟨_, _, rfl⟩ ⟨_, _, rfl⟩ ⟨_, _, _, rfl⟩ ?_; intro w5 S5 g5; have SC5 := SC4.grown g5 (by intro e; injection e with e; omega); have SK5 := SK4.grown g5 (by intro e; injection e with e; omega); have own5 := own4.block (w' := w5) (fun b hb => g5.block b (own4.lt hb).2 (by have := (own4.lt hb).1; intro e; injection e with e; omega)); have bz5 := bz4.grown g5 bz4.size (fun k e => by injection e with e; omega); have hc5 : w5.cell? ⟨b5, o5 + k, none⟩ = some (.int .i64 x9) := (World.cell?_of_block (g5.block b5 hb5 (by intro e; injection e with e; omega))).trans hc4; have o0 := S5.at 0 rfl; have o1 := S5.at 1 rfl; have o2 := S5.at 2 rfl; have q0 := SC5.at 0 rfl; have q1 := SC5.at 1 rfl; have q2 := SC5.at 2 rfl; have q3 := SC5.at 3 rfl; have q4 := SC5.at 4 rfl; have q5 := SC5.at 5 rfl; have s0 := SK5.at 0 rfl; have s1 := SK5.at 1 rfl; have s2 := SK5.at 2 rfl; have s3 := SK5.at 3 rfl; have s4 := SK5.at 4 rfl)
              clear o0 o1 o2 q0 q1 q2 q3 q4 q5 s0 s1 s2 s3 s4
              refine (em_c ⟨0, 0, k, cl, 0⟩ w5 hem).mono ?_
              rintro e w6 ⟨rfl, hb6⟩
              have X9 := S5.below hb6
              have XC := SC5.below hb6
              have XK := SK5.below hb6
              have Xz := bz5.trans (hb6.mono bz5.size)
              have Xo := own5.below (hb6.mono (Nat.le_refl _))
              have o0 := X9.at 0 rfl
              have o1 := X9.at 1 rfl
              have o2 := X9.at 2 rfl
              have q0 := XC.at 0 rfl
              have q1 := XC.at 1 rfl
              have q2 := XC.at 2 rfl
              have q3 := XC.at 3 rfl
              have q4 := XC.at 4 rfl
              have q5 := XC.at 5 rfl
              have s0 := XK.at 0 rfl
              have s1 := XK.at 1 rfl
              have s2 := XK.at 2 rfl
              have s3 := XK.at 3 rfl
              have s4 := XK.at 4 rfl
              have hs5 := g5.size
              have hs6 := hb6.size
              go_wp2_with fail
              refine (count_any (k : Int) G (some ⟨b5, o5, none⟩) n c5 E9 true w6 (Xo.intsN).2 (Xo.intsN).1 (by omega) (by omega) (by omega)).mono ?_
              rintro e w7 ⟨A7, c7, rfl, hb7, own7⟩
              have Y9 := X9.below hb7
              have YC := XC.below hb7
              have YK := XK.below hb7
              have Yz := Xz.trans (hb7.mono Xz.size)
              have hs7 := hb7.size
              clear o0 o1 o2 q0 q1 q2 q3 q4 q5 s0 s1 s2 s3 s4
              go_wp2_with (show wpList _ _ _ (Oper.mk none (.store _ (.tmp 9) (.tmp 104)) _ _ _ _ :: _) _ _; refine wpList_store3 rfl rfl rfl rfl rfl Y9 ⟨rfl, rfl, rfl⟩ ⟨_, _, rfl⟩ ⟨_, _, rfl⟩ ⟨_, _, _, rfl⟩ ?_; intro w8 S8 g8; have SC8 := YC.grown g8 (by intro e; injection e with e; omega); have SK8 := YK.grown g8 (by intro e; injection e with e; omega); have own8 := own7.block (w' := w8) (fun b hb => g8.block b (own7.lt hb).2 (by have := (own7.lt hb).1; intro e; injection e with e; omega)); have bz8 := Yz.grown g8 Yz.size (fun k e => by injection e with e; omega))
              go_roundw
              case rel => exact ⟨N + 1, (k : Int), _, (G + 1), (-1), A7, c7, E9, by omega, by omega, by go_num, (by first | rfl | go_num), (by first | rfl | go_num), ⟨.inl ⟨rfl, (by unfold grC; rw [if_pos ⟨rfl, by omega⟩]; omega), .inr (.inl rfl)⟩, by omega, by omega, (by rw [Int.toNat_natCast, HX9.out])⟩, hE9u2, (own8.intsN).2, SC8, SK8, S8, (own8.intsN).1, (fun a ha => by subst ha; have := (own8.lt rfl).1; omega), bz8⟩
              case measure => simp [intOf]; omega
            · skip
              have zx : (x9 != ended) = false := by simpa using hx9
              have hww : IntKind.i64.wrap ((N : Int) - ended) = (N : Int) - ended := by rw [IntKind.wrap_i64]; omega
              have z1 : (ended == (-1 : Int)) = false := by simpa using h2
              have z2 : decide ((N : Int) - ended > lock) = true := by simpa using h3
              clear hx9
              go_wp2_with (show wpList _ _ _ (Oper.mk none (.store _ (.tmp 9) (.tmp 44)) _ _ _ _ :: _) _ _; refine wpList_store3 rfl rfl rfl rfl rfl S4 ⟨rfl, rfl, rfl⟩ ⟨_, _, rfl⟩ ⟨_, _, rfl⟩ ⟨_, _, _, rfl⟩ ?_; intro w5 S5 g5; have SC5 := SC4.grown g5 (by intro e; injection e with e; omega); have SK5 := SK4.grown g5 (by intro e; injection e with e; omega); have own5 := own4.block (w' := w5) (fun b hb => g5.block b (own4.lt hb).2 (by have := (own4.lt hb).1; intro e; injection e with e; omega)); have bz5 := bz4.grown g5 bz4.size (fun k e => by injection e with e; omega); have hc5 : w5.cell? ⟨b5, o5 + k, none⟩ = some (.int .i64 x9) := (World.cell?_of_block (g5.block b5 hb5 (by intro e; injection e with e; omega))).trans hc4; have o0 := S5.at 0 rfl; have o1 := S5.at 1 rfl; have o2 := S5.at 2 rfl; have q0 := SC5.at 0 rfl; have q1 := SC5.at 1 rfl; have q2 := SC5.at 2 rfl; have q3 := SC5.at 3 rfl; have q4 := SC5.at 4 rfl; have q5 := SC5.at 5 rfl; have s0 := SK5.at 0 rfl; have s1 := SK5.at 1 rfl; have s2 := SK5.at 2 rfl; have s3 := SK5.at 3 rfl; have s4 := SK5.at 4 rfl)
              clear o0 o1 o2 q0 q1 q2 q3 q4 q5 s0 s1 s2 s3 s4
              refine (em_c ⟨0, 0, k, cl, 0⟩ w5 hem).mono ?_
              rintro e w6 ⟨rfl, hb6⟩
              have X9 := S5.below hb6
              have XC := SC5.below hb6
              have XK := SK5.below hb6
              have Xz := bz5.trans (hb6.mono bz5.size)
              have Xo := own5.below (hb6.mono (Nat.le_refl _))
              have o0 := X9.at 0 rfl
              have o1 := X9.at 1 rfl
              have o2 := X9.at 2 rfl
              have q0 := XC.at 0 rfl
              have q1 := XC.at 1 rfl
              have q2 := XC.at 2 rfl
              have q3 := XC.at 3 rfl
              have q4 := XC.at 4 rfl
              have q5 := XC.at 5 rfl
              have s0 := XK.at 0 rfl
              have s1 := XK.at 1 rfl
              have s2 := XK.at 2 rfl
              have s3 := XK.at 3 rfl
              have s4 := XK.at 4 rfl
              have hs5 := g5.size
              have hs6 := hb6.size
              go_wp2_with fail
              refine (count_any (k : Int) G (some ⟨b5, o5, none⟩) n c5 E9 true w6 (Xo.intsN).2 (Xo.intsN).1 (by omega) (by omega) (by omega)).mono ?_
              rintro e w7 ⟨A7, c7, rfl, hb7, own7⟩
              have Y9 := X9.below hb7
              have YC := XC.below hb7
              have YK := XK.below hb7
              have Yz := Xz.trans (hb7.mono Xz.size)
              have hs7 := hb7.size
              clear o0 o1 o2 q0 q1 q2 q3 q4 q5 s0 s1 s2 s3 s4
              go_wp2_with (show wpList _ _ _ (Oper.mk none (.store _ (.tmp 9) (.tmp 104)) _ _ _ _ :: _) _ _; refine wpList_store3 rfl rfl rfl rfl rfl Y9 ⟨rfl, rfl, rfl⟩ ⟨_, _, rfl⟩ ⟨_, _, rfl⟩ ⟨_, _, _, rfl⟩ ?_; intro w8 S8 g8; have SC8 := YC.grown g8 (by intro e; injection e with e; omega); have SK8 := YK.grown g8 (by intro e; injection e with e; omega); have own8 := own7.block (w' := w8) (fun b hb => g8.block b (own7.lt hb).2 (by have := (own7.lt hb).1; intro e; injection e with e; omega)); have bz8 := Yz.grown g8 Yz.size (fun k e => by injection e with e; omega))
              go_roundw
              case rel => exact ⟨N + 1, (k : Int), _, (G + 1), ended, A7, c7, E9, by omega, by omega, by go_num, (by first | rfl | go_num), (by first | rfl | go_num), ⟨.inl ⟨rfl, (by unfold grC; rw [if_pos ⟨rfl, by omega⟩]; omega), .inr (.inr (by omega))⟩, by omega, by omega, (by rw [Int.toNat_natCast, HX9.out])⟩, hE9u2, (own8.intsN).2, SC8, SK8, S8, (own8.intsN).1, (fun a ha => by subst ha; have := (own8.lt rfl).1; omega), bz8⟩
              case measure => simp [intOf]; omega
      · have HX9 : Hid (at_ E9 k = ended) := Lib.hid (by rw [HX0.out, hx9])
        clear HX0
        unfold Sv at hSv
        have hem : emB cl = false := by cases h : emB cl <;> simp_all
        have h2 : ended ≠ -1 := fun h => hSv (.inr (.inl h))
        have h3 : ¬ ((N : Int) - ended > lock) := fun h => hSv (.inr (.inr h))
        clear hSv
        have zx : (x9 != ended) = false := by simpa using hx9
        have hww : IntKind.i64.wrap ((N : Int) - ended) = (N : Int) - ended := by rw [IntKind.wrap_i64]; omega
        have z1 : (ended == (-1 : Int)) = false := by simpa using h2
        have z2 : decide ((N : Int) - ended > lock) = false := by simpa using h3
        have z4 : ((-1 : Int) == (k : Int)) = false := by simp <;> omega
        clear hx9
        go_wp2_with (show wpList _ _ _ (Oper.mk none (.store _ (.tmp 9) (.tmp 44)) _ _ _ _ :: _) _ _; refine wpList_store3 rfl rfl rfl rfl rfl S4 ⟨rfl, rfl, rfl⟩ ⟨_, _, rfl⟩ ⟨_, _, rfl⟩ ⟨_, _, _, rfl⟩ ?_; intro w5 S5 g5; have SC5 := SC4.grown g5 (by intro e; injection e with e; omega); have SK5 := SK4.grown g5 (by intro e; injection e with e; omega); have own5 := own4.block (w' := w5) (fun b hb => g5.block b (own4.lt hb).2 (by have := (own4.lt hb).1; intro e; injection e with e; omega)); have bz5 := bz4.grown g5 bz4.size (fun k e => by injection e with e; omega); have hc5 : w5.cell? ⟨b5, o5 + k, none⟩ = some (.int .i64 x9) := (World.cell?_of_block (g5.block b5 hb5 (by intro e; injection e with e; omega))).trans hc4; have o0 := S5.at 0 rfl; have o1 := S5.at 1 rfl; have o2 := S5.at 2 rfl; have q0 := SC5.at 0 rfl; have q1 := SC5.at 1 rfl; have q2 := SC5.at 2 rfl; have q3 := SC5.at 3 rfl; have q4 := SC5.at 4 rfl; have q5 := SC5.at 5 rfl; have s0 := SK5.at 0 rfl; have s1 := SK5.at 1 rfl; have s2 := SK5.at 2 rfl; have s3 := SK5.at 3 rfl; have s4 := SK5.at 4 rfl)
        clear o0 o1 o2 q0 q1 q2 q3 q4 q5 s0 s1 s2 s3 s4
        refine (em_c ⟨0, 0, k, cl, 0⟩ w5 hem).mono ?_
        rintro e w6 ⟨rfl, hb6⟩
        have X9 := S5.below hb6
        have XC := SC5.below hb6
        have XK := SK5.below hb6
        have Xz := bz5.trans (hb6.mono bz5.size)
        have Xo := own5.below (hb6.mono (Nat.le_refl _))
        have o0 := X9.at 0 rfl
        have o1 := X9.at 1 rfl
        have o2 := X9.at 2 rfl
        have q0 := XC.at 0 rfl
        have q1 := XC.at 1 rfl
        have q2 := XC.at 2 rfl
        have q3 := XC.at 3 rfl
        have q4 := XC.at 4 rfl
        have q5 := XC.at 5 rfl
        have s0 := XK.at 0 rfl
        have s1 := XK.at 1 rfl
        have s2 := XK.at 2 rfl
        have s3 := XK.at 3 rfl
        have s4 := XK.at 4 rfl
        have hs5 := g5.size
        have hs6 := hb6.size
        go_wp2_with fail
        refine (count_any (-1) 0 (some ⟨b5, o5, none⟩) n c5 E9 true w6 (Xo.intsN).2 (Xo.intsN).1 (by omega) (by omega) (by omega)).mono ?_
        rintro e w7 ⟨A7, c7, rfl, hb7, own7⟩
        have Y9 := X9.below hb7
        have YC := XC.below hb7
        have YK := XK.below hb7
        have Yz := Xz.trans (hb7.mono Xz.size)
        have hs7 := hb7.size
        clear o0 o1 o2 q0 q1 q2 q3 q4 q5 s0 s1 s2 s3 s4
        go_wp2_with (show wpList _ _ _ (Oper.mk none (.store _ (.tmp 9) (.tmp 104)) _ _ _ _ :: _) _ _; refine wpList_store3 rfl rfl rfl rfl rfl Y9 ⟨rfl, rfl, rfl⟩ ⟨_, _, rfl⟩ ⟨_, _, rfl⟩ ⟨_, _, _, rfl⟩ ?_; intro w8 S8 g8; have SC8 := YC.grown g8 (by intro e; injection e with e; omega); have SK8 := YK.grown g8 (by intro e; injection e with e; omega); have own8 := own7.block (w' := w8) (fun b hb => g8.block b (own7.lt hb).2 (by have := (own7.lt hb).1; intro e; injection e with e; omega)); have bz8 := Yz.grown g8 Yz.size (fun k e => by injection e with e; omega))
        go_roundw
        case rel => exact ⟨N + 1, (-1), _, green, ended, A7, c7, E9, by omega, by omega, by go_num, (by first | rfl | go_num), (by first | rfl | go_num), ⟨.inr ⟨rfl, (by unfold grC; rw [if_neg (by simp)]), by omega⟩, by omega, by omega, (by rw [Int.toNat_natCast, HX9.out])⟩, hE9u2, (own8.intsN).2, SC8, SK8, S8, (own8.intsN).1, (fun a ha => by subst ha; have := (own8.lt rfl).1; omega), bz8⟩
        case measure => simp [intOf]; omega
      · have HX9 : Hid (at_ E9 k = N) := Lib.hid (by rw [HX0.out, hx9])
        clear HX0
        have zx : (x9 != ended) = true := by simp; omega
        have zg : (green != hold) = false := by simpa using hgh
        have zn : (x9 != (N : Int)) = false := by simpa using hx9
        clear hx9 hgh hne
        go_wp2_with (show wpList _ _ _ (Oper.mk none (.store _ (.tmp 9) (.tmp 44)) _ _ _ _ :: _) _ _; refine wpList_store3 rfl rfl rfl rfl rfl S4 ⟨rfl, rfl, rfl⟩ ⟨_, _, rfl⟩ ⟨_, _, rfl⟩ ⟨_, _, _, rfl⟩ ?_; intro w5 S5 g5; have SC5 := SC4.grown g5 (by intro e; injection e with e; omega); have SK5 := SK4.grown g5 (by intro e; injection e with e; omega); have own5 := own4.block (w' := w5) (fun b hb => g5.block b (own4.lt hb).2 (by have := (own4.lt hb).1; intro e; injection e with e; omega)); have bz5 := bz4.grown g5 bz4.size (fun k e => by injection e with e; omega); have hc5 : w5.cell? ⟨b5, o5 + k, none⟩ = some (.int .i64 x9) := (World.cell?_of_block (g5.block b5 hb5 (by intro e; injection e with e; omega))).trans hc4; have o0 := S5.at 0 rfl; have o1 := S5.at 1 rfl; have o2 := S5.at 2 rfl; have q0 := SC5.at 0 rfl; have q1 := SC5.at 1 rfl; have q2 := SC5.at 2 rfl; have q3 := SC5.at 3 rfl; have q4 := SC5.at 4 rfl; have q5 := SC5.at 5 rfl; have s0 := SK5.at 0 rfl; have s1 := SK5.at 1 rfl; have s2 := SK5.at 2 rfl; have s3 := SK5.at 3 rfl; have s4 := SK5.at 4 rfl)
        clear o0 o1 o2 q0 q1 q2 q3 q4 q5 s0 s1 s2 s3 s4
        refine (em_c ⟨0, 0, k, cl, 0⟩ w5 hem).mono ?_
        rintro e w6 ⟨rfl, hb6⟩
        have X9 := S5.below hb6
        have XC := SC5.below hb6
        have XK := SK5.below hb6
        have Xz := bz5.trans (hb6.mono bz5.size)
        have Xo := own5.below (hb6.mono (Nat.le_refl _))
        have o0 := X9.at 0 rfl
        have o1 := X9.at 1 rfl
        have o2 := X9.at 2 rfl
        have q0 := XC.at 0 rfl
        have q1 := XC.at 1 rfl
        have q2 := XC.at 2 rfl
        have q3 := XC.at 3 rfl
        have q4 := XC.at 4 rfl
        have q5 := XC.at 5 rfl
        have s0 := XK.at 0 rfl
        have s1 := XK.at 1 rfl
        have s2 := XK.at 2 rfl
        have s3 := XK.at 3 rfl
        have s4 := XK.at 4 rfl
        have hs5 := g5.size
        have hs6 := hb6.size
        go_wp2_with fail
        refine (count_any (k : Int) 0 (some ⟨b5, o5, none⟩) n c5 E9 true w6 (Xo.intsN).2 (Xo.intsN).1 (by omega) (by omega) (by omega)).mono ?_
        rintro e w7 ⟨A7, c7, rfl, hb7, own7⟩
        have Y9 := X9.below hb7
        have YC := XC.below hb7
        have YK := XK.below hb7
        have Yz := Xz.trans (hb7.mono Xz.size)
        have hs7 := hb7.size
        clear o0 o1 o2 q0 q1 q2 q3 q4 q5 s0 s1 s2 s3 s4
        go_wp2_with (show wpList _ _ _ (Oper.mk none (.store _ (.tmp 9) (.tmp 104)) _ _ _ _ :: _) _ _; refine wpList_store3 rfl rfl rfl rfl rfl Y9 ⟨rfl, rfl, rfl⟩ ⟨_, _, rfl⟩ ⟨_, _, rfl⟩ ⟨_, _, _, rfl⟩ ?_; intro w8 S8 g8; have SC8 := YC.grown g8 (by intro e; injection e with e; omega); have SK8 := YK.grown g8 (by intro e; injection e with e; omega); have own8 := own7.block (w' := w8) (fun b hb => g8.block b (own7.lt hb).2 (by have := (own7.lt hb).1; intro e; injection e with e; omega)); have bz8 := Yz.grown g8 Yz.size (fun k e => by injection e with e; omega))
        go_roundw
        case rel => exact ⟨N + 1, (k : Int), _, 1, N, A7, c7, E9, by omega, by omega, by go_num, (by first | rfl | go_num), (by first | rfl | go_num), ⟨.inl ⟨rfl, (by unfold grC; rw [if_pos ⟨rfl, by omega⟩]; omega), .inl hem⟩, by omega, by omega, (by rw [Int.toNat_natCast, HX9.out])⟩, hE9u2, (own8.intsN).2, SC8, SK8, S8, (own8.intsN).1, (fun a ha => by subst ha; have := (own8.lt rfl).1; omega), bz8⟩
        case measure => simp [intOf]; omega
      · have HX9 : Hid (at_ E9 k = N) := Lib.hid (by rw [HX0.out, hx9])
        clear HX0
        have zx : (x9 != ended) = true := by simp; omega
        have zg : (green != hold) = false := by simpa using hgh
        have zn : (x9 != (N : Int)) = false := by simpa using hx9
        have z1 : ((N : Int) == (-1 : Int)) = false := by simp <;> omega
        have z2 : decide ((0 : Int) > lock) = false := by simp <;> omega
        have z4 : ((-1 : Int) == (k : Int)) = false := by simp <;> omega
        clear hx9 hgh hne
        go_wp2_with (show wpList _ _ _ (Oper.mk none (.store _ (.tmp 9) (.tmp 44)) _ _ _ _ :: _) _ _; refine wpList_store3 rfl rfl rfl rfl rfl S4 ⟨rfl, rfl, rfl⟩ ⟨_, _, rfl⟩ ⟨_, _, rfl⟩ ⟨_, _, _, rfl⟩ ?_; intro w5 S5 g5; have SC5 := SC4.grown g5 (by intro e; injection e with e; omega); have SK5 := SK4.grown g5 (by intro e; injection e with e; omega); have own5 := own4.block (w' := w5) (fun b hb => g5.block b (own4.lt hb).2 (by have := (own4.lt hb).1; intro e; injection e with e; omega)); have bz5 := bz4.grown g5 bz4.size (fun k e => by injection e with e; omega); have hc5 : w5.cell? ⟨b5, o5 + k, none⟩ = some (.int .i64 x9) := (World.cell?_of_block (g5.block b5 hb5 (by intro e; injection e with e; omega))).trans hc4; have o0 := S5.at 0 rfl; have o1 := S5.at 1 rfl; have o2 := S5.at 2 rfl; have q0 := SC5.at 0 rfl; have q1 := SC5.at 1 rfl; have q2 := SC5.at 2 rfl; have q3 := SC5.at 3 rfl; have q4 := SC5.at 4 rfl; have q5 := SC5.at 5 rfl; have s0 := SK5.at 0 rfl; have s1 := SK5.at 1 rfl; have s2 := SK5.at 2 rfl; have s3 := SK5.at 3 rfl; have s4 := SK5.at 4 rfl)
        clear o0 o1 o2 q0 q1 q2 q3 q4 q5 s0 s1 s2 s3 s4
        refine (em_c ⟨0, 0, k, cl, 0⟩ w5 hem).mono ?_
        rintro e w6 ⟨rfl, hb6⟩
        have X9 := S5.below hb6
        have XC := SC5.below hb6
        have XK := SK5.below hb6
        have Xz := bz5.trans (hb6.mono bz5.size)
        have Xo := own5.below (hb6.mono (Nat.le_refl _))
        have o0 := X9.at 0 rfl
        have o1 := X9.at 1 rfl
        have o2 := X9.at 2 rfl
        have q0 := XC.at 0 rfl
        have q1 := XC.at 1 rfl
        have q2 := XC.at 2 rfl
        have q3 := XC.at 3 rfl
        have q4 := XC.at 4 rfl
        have q5 := XC.at 5 rfl
        have s0 := XK.at 0 rfl
        have s1 := XK.at 1 rfl
        have s2 := XK.at 2 rfl
        have s3 := XK.at 3 rfl
        have s4 := XK.at 4 rfl
        have hs5 := g5.size
        have hs6 := hb6.size
        go_wp2_with fail
        refine (count_any (-1) 0 (some ⟨b5, o5, none⟩) n c5 E9 true w6 (Xo.intsN).2 (Xo.intsN).1 (by omega) (by omega) (by omega)).mono ?_
        rintro e w7 ⟨A7, c7, rfl, hb7, own7⟩
        have Y9 := X9.below hb7
        have YC := XC.below hb7
        have YK := XK.below hb7
        have Yz := Xz.trans (hb7.mono Xz.size)
        have hs7 := hb7.size
        clear o0 o1 o2 q0 q1 q2 q3 q4 q5 s0 s1 s2 s3 s4
        go_wp2_with (show wpList _ _ _ (Oper.mk none (.store _ (.tmp 9) (.tmp 104)) _ _ _ _ :: _) _ _; refine wpList_store3 rfl rfl rfl rfl rfl Y9 ⟨rfl, rfl, rfl⟩ ⟨_, _, rfl⟩ ⟨_, _, rfl⟩ ⟨_, _, _, rfl⟩ ?_; intro w8 S8 g8; have SC8 := YC.grown g8 (by intro e; injection e with e; omega); have SK8 := YK.grown g8 (by intro e; injection e with e; omega); have own8 := own7.block (w' := w8) (fun b hb => g8.block b (own7.lt hb).2 (by have := (own7.lt hb).1; intro e; injection e with e; omega)); have bz8 := Yz.grown g8 Yz.size (fun k e => by injection e with e; omega))
        go_roundw
        case rel => exact ⟨N + 1, (-1), _, 0, N, A7, c7, E9, by omega, by omega, by go_num, (by first | rfl | go_num), (by first | rfl | go_num), ⟨.inr ⟨rfl, (by unfold grC; rw [if_neg (by simp)]), by omega⟩, by omega, by omega, (by rw [Int.toNat_natCast, HX9.out])⟩, hE9u2, (own8.intsN).2, SC8, SK8, S8, (own8.intsN).1, (fun a ha => by subst ha; have := (own8.lt rfl).1; omega), bz8⟩
        case measure => simp [intOf]; omega
    · go_wp2_with fail
      refine (awake_any wr).mono ?_
      rintro e w4 ⟨rfl, hw4⟩
      go_wp2
      go_ret
      exact ⟨rfl, bz.trans (hw4.mono bz.size)⟩
end Go.Proofs.Ytikffoepndpfjaa

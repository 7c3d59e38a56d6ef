/-
  Encode of layer 3. Conditions: none.
-/
import Derived.Test.YtahemaondkjpiaaW
import Derived.Test.YtahemaondkjpiaaG
import Derived.Test.YtahemaondkjpiaaMo
import Derived.Laws.CopyOwn
import Derived.Deep.OwnRows
namespace Go.Proofs.Ytahemaondkjpiaa
open Go.ChangeShapes Go.WideShapes Go.RowKit
set_option linter.unusedVariables false

/-- A row of bytes lies at g. -/
def RowB (w : World) (g : Nat) (l : List Int) : Prop := Blk w g 5 (l.map (Value.int .u8)).toArray
theorem RowB.below {w w' : World} {g : Nat} {l : List Int} (h : RowB w g l) (hb : Below w.heap.size w w') : RowB w' g l := Blk.below h hb
theorem RowB.lt {w : World} {g : Nat} {l : List Int} (h : RowB w g l) : g < w.heap.size := Blk.lt h
theorem RowB.ints {w : World} {g : Nat} {l : List Int} (h : RowB w g l) : Ints .u8 w w.heap.size (some ⟨g, 0, none⟩) l := fun _ =>
  ⟨g, 0, rfl, h.lt, fun i hi => by rw [Nat.zero_add, Blk.cell h i]; simp [at_, hi]⟩
theorem RowB.part {w : World} {g : Nat} {l : List Int} (h : RowB w g l) (i n : Nat) : Ints .u8 w w.heap.size (some ⟨g, i, none⟩) ((l.drop i).take n) := by
  have := (h.ints.drop i).take n
  rwa [Nat.zero_add] at this
theorem made_zeros8 (n : Nat) : (madeCells #[Value.int .u8 0] n) = ((List.replicate n (0 : Int)).map (Value.int .u8)).toArray := by
  apply Array.ext'
  unfold madeCells
  simp [Nat.mod_one, List.map_const']
theorem splice_map (l m : List Int) (off : Nat) : splice (l.map (Value.int .u8)) off (m.map (Value.int .u8)) = (splice l off m).map (Value.int .u8) := by
  unfold splice
  simp
theorem wpList_copy_bytes {P : Program} {w : World} {ops : Array Oper} {rest : List Oper} {o : Oper} {a : Act} {Q : Exit → Act → World → Prop} (hgd : o.guard = none) (d s : Operand) (T : TypeId)
    (ho : o.op = .call { callee := .builtin .copy, args := #[d, s], argTypes := #[T, T] }) (hu : P.underlying T = some (.slice 5)) (hsz : (P.info? 5).map (·.size) = some 1)
    (g off dLen dCap : Nat) (A : Option Addr) (n c : Nat) (hd : a.eval d = .slice (some ⟨g, off, none⟩) dLen dCap) (hs : a.eval s = .slice A n c)
    (l m : List Int) (hg : RowB w g l) (hn : m.length = n) (hm : Ints .u8 w w.heap.size A m) (hle : n ≤ dLen) (hfit : off + n ≤ l.length) (B : Nat) (w0 : World) (hb : Below B w0 w) (hBg : B ≤ g)
    (h : ∀ w', RowB w' g (splice l off m) → Below B w0 w' → wpList P ops Q rest (a.put o.dst (goInt n)) w') : wpList P ops Q (o :: rest) a w := by
  subst hn
  refine wpList_copy_splice hgd d s T T ho 5 hu hsz (some ⟨g, off, none⟩) A dLen dCap m.length c hd hs g off (l.map (Value.int .u8)) 5 hg (m.map (Value.int .u8)) (by rw [List.length_map]; exact (Nat.min_eq_left hle).symm) (fun hp => ?_) (by simpa using hfit) (fun v hv => by obtain ⟨x, _, rfl⟩ := List.mem_map.1 hv; rfl) B w0 hb hBg (fun w' hr hb' => ?_)
  · obtain ⟨b, o', rfl, _, hc⟩ := hm (by simpa using hp)
    refine ⟨rfl, _, rfl, fun j v hv => ?_⟩
    rw [List.getElem?_map] at hv
    cases hj : m[j]? with
    | none => rw [hj] at hv; cases hv
    | some x =>
      rw [hj] at hv
      have hjl : j < m.length := by
        rcases Nat.lt_or_ge j m.length with h' | h'
        · exact h'
        · rw [List.getElem?_eq_none h'] at hj; cases hj
      have e1 : (Addr.add ⟨b, o', none⟩ j) = ⟨b, o' + j, none⟩ := by unfold Addr.add; split <;> simp_all
      rw [e1, hc j hjl]
      simpa [at_, hj] using hv
  · have e := h w' (by have := hr.out; rw [splice_map] at this; exact this) hb'
    rwa [List.length_map]
theorem wpList_copy_min {P : Program} {w : World} {ops : Array Oper} {rest : List Oper} {o : Oper} {a : Act} {Q : Exit → Act → World → Prop} (hgd : o.guard = none) (d s : Operand) (T : TypeId)
    (ho : o.op = .call { callee := .builtin .copy, args := #[d, s], argTypes := #[T, T] }) (hu : P.underlying T = some (.slice 5)) (hsz : (P.info? 5).map (·.size) = some 1)
    (g off dLen dCap : Nat) (A : Option Addr) (sLen c n : Nat) (hd : a.eval d = .slice (some ⟨g, off, none⟩) dLen dCap) (hs : a.eval s = .slice A sLen c)
    (l m : List Int) (hg : RowB w g l) (hn : m.length = n) (hm : Ints .u8 w w.heap.size A m) (hle : n = Nat.min sLen dLen) (hfit : off + n ≤ l.length) (B : Nat) (w0 : World) (hb : Below B w0 w) (hBg : B ≤ g)
    (h : ∀ w', RowB w' g (splice l off m) → Below B w0 w' → wpList P ops Q rest (a.put o.dst (goInt n)) w') : wpList P ops Q (o :: rest) a w := by
  subst hn
  refine wpList_copy_splice hgd d s T T ho 5 hu hsz (some ⟨g, off, none⟩) A dLen dCap sLen c hd hs g off (l.map (Value.int .u8)) 5 hg (m.map (Value.int .u8)) (by rw [List.length_map]; exact hle) (fun hp => ?_) (by simpa using hfit) (fun v hv => by obtain ⟨x, _, rfl⟩ := List.mem_map.1 hv; rfl) B w0 hb hBg (fun w' hr hb' => ?_)
  · obtain ⟨b, o', rfl, _, hc⟩ := hm (by simpa using hp)
    refine ⟨rfl, _, rfl, fun j v hv => ?_⟩
    rw [List.getElem?_map] at hv
    cases hj : m[j]? with
    | none => rw [hj] at hv; cases hv
    | some x =>
      rw [hj] at hv
      have hjl : j < m.length := by
        rcases Nat.lt_or_ge j m.length with h' | h'
        · exact h'
        · rw [List.getElem?_eq_none h'] at hj; cases hj
      have e1 : (Addr.add ⟨b, o', none⟩ j) = ⟨b, o' + j, none⟩ := by unfold Addr.add; split <;> simp_all
      rw [e1, hc j hjl]
      simpa [at_, hj] using hv
  · have e := h w' (by have := hr.out; rw [splice_map] at this; exact this) hb'
    rwa [List.length_map]
/-- Size of layer 3. -/
def sizeF (n : Int) : Int := if n < 0 ∨ 200 < n then 0 else n + 10
theorem fsize_any (n : Int) (w : World) : Calls Try.prog 13 #[.int .i64 n] w fun e w' => e = .returned (.int .i64 (sizeF n)) ∧ w = w' := by
  go_enter Try.func13, Try.ntmps13
  by_cases h0 : n < 0
  · go_wp2
    go_ret
    exact ⟨by rw [sizeF, if_pos (.inl h0)]; rfl, rfl⟩
  · by_cases h1 : 200 < n
    · go_wp2
      go_ret
      exact ⟨by rw [sizeF, if_pos (.inr h1)]; rfl, rfl⟩
    · go_wp2
      go_ret
      refine ⟨?_, rfl⟩
      rw [sizeF, if_neg (by omega)]
      simp
      try omega
theorem rfsize_any (n : Int) (w : World) : Calls Try.prog 14 #[.int .i64 n] w fun e w' => e = .returned (.int .i64 (sizeF n)) ∧ w = w' := by
  go_enter Try.func14, Try.ntmps14
  by_cases h0 : n < 0
  · go_wp2
    go_ret
    exact ⟨by rw [sizeF, if_pos (.inl h0)]; rfl, rfl⟩
  · by_cases h1 : 200 < n
    · go_wp2
      go_ret
      exact ⟨by rw [sizeF, if_pos (.inr h1)]; rfl, rfl⟩
    · go_wp2
      go_ret
      refine ⟨?_, rfl⟩
      rw [sizeF, if_neg (by omega)]
      simp
      try omega
def four (r : BitVec 32) : List Int := [un r / 16777216, un r / 65536 % 256, un r / 256 % 256, un r % 256]
def bodyL (k : Int) (p : List Int) : List Int := [1, k, 0, (p.length : Int)] ++ p
def encL (k : Int) (p : List Int) : List Int := [90, 165] ++ (bodyL k p ++ four (upd 0#32 (bodyL k p)))
def encOk (k : Int) (p : List Int) : Bool := decide (0 ≤ k ∧ k ≤ 255) && decide (p.length ≤ 200)
theorem enc_splice (n : Nat) (six p : List Int) (h6 : six.length = 6) (hp : p.length = n) : splice (splice (List.replicate (n + 10) (0 : Int)) 0 six) 6 p = six ++ (p ++ [0, 0, 0, 0]) := by
  subst hp
  have e1 : splice (List.replicate (p.length + 10) (0 : Int)) 0 six = six ++ List.replicate (p.length + 4) 0 := by
    unfold splice; simp [h6]
  rw [e1]
  unfold splice
  rw [List.take_append_of_le_length (by omega), List.take_of_length_le (by omega), List.drop_append, List.drop_eq_nil_of_le (by omega)]
  rw [h6, show 6 + p.length - 6 = p.length by omega, List.drop_replicate, show p.length + 4 - p.length = 4 by omega]
  rfl
theorem body_len (k : Int) (p : List Int) : (bodyL k p).length = p.length + 4 := by simp [bodyL]
theorem body_byte {k : Int} {p : List Int} (h0 : 0 ≤ k) (h1 : k ≤ 255) (hp : Byte p) (hl : p.length ≤ 200) : Byte (bodyL k p) := by
  unfold bodyL
  refine Byte.app (fun n hn => ?_) hp
  simp at hn
  rcases hn with rfl | rfl | rfl | rfl <;> omega
theorem enc_part (six p : List Int) (h6 : six.length = 6) : ((six ++ (p ++ [0, 0, 0, 0])).drop 2).take (p.length + 4) = six.drop 2 ++ p := by
  rw [List.drop_append_of_le_length (by omega), List.take_append, List.take_of_length_le (by simp; omega)]
  congr 1
  rw [show p.length + 4 - (six.drop 2).length = p.length by simp; omega]
  simp
theorem enc_end (six p q : List Int) (h6 : six.length = 6) (hq : q.length = 4) : splice (six ++ (p ++ [0, 0, 0, 0])) (p.length + 6) q = six ++ (p ++ q) := by
  have e : six ++ (p ++ [0, 0, 0, 0]) = (six ++ p) ++ [0, 0, 0, 0] := by simp
  have hl : (six ++ p).length = p.length + 6 := by rw [List.length_append, h6]; omega
  unfold splice
  rw [e, hq, List.drop_eq_nil_of_le (by rw [List.length_append, hl]; simp), List.take_append_of_le_length (by omega), List.take_of_length_le (by omega)]
  simp
def encE (k : Int) : Int := if k < 0 ∨ 255 < k then 8 else 7
theorem encode_any (k : Int) (A : Option Addr) (c : Nat) (p : List Int) (w : World) (hs : Ints .u8 w w.heap.size A p) (hby : Byte p) (hl : p.length ≤ 9223372036854775807) :
    Calls Try.prog 11 #[.int .i64 k, .slice A p.length c] w fun e w' => Below w.heap.size w w' ∧
      ((encOk k p = true ∧ ∃ g, e = .returned (.tuple #[.slice (some ⟨g, 0, none⟩) (p.length + 10) (p.length + 10), .int .i64 0]) ∧ w.heap.size ≤ g ∧ RowB w' g (encL k p)) ∨
       (encOk k p = false ∧ e = .returned (.tuple #[.slice none 0 0, .int .i64 (encE k)]))) := by
  go_enter Try.func11, Try.ntmps11
  by_cases k0 : k < 0
  · go_wp2
    go_ret2
    exact ⟨Below.refl _ _, .inr ⟨by simp [encOk]; omega, by rw [show encE k = 8 from if_pos (.inl k0)]; rfl⟩⟩
  by_cases k1 : 255 < k
  · go_wp2
    go_ret2
    exact ⟨Below.refl _ _, .inr ⟨by simp [encOk]; omega, by rw [show encE k = 8 from if_pos (.inr k1)]; rfl⟩⟩
  by_cases h2 : 200 < p.length
  · go_wp2
    go_ret2
    exact ⟨Below.refl _ _, .inr ⟨by simp [encOk]; omega, by rw [show encE k = 7 from if_neg (by omega)]; rfl⟩⟩
  have k0' : 0 ≤ k := by omega
  have k1' : k ≤ 255 := by omega
  have hsz : sizeF p.length = ((p.length + 10 : Nat) : Int) := by rw [sizeF, if_neg (by omega)]; omega
  go_wp2_with fail
  refine (fsize_any _ _).mono ?_; rw [hsz]; rintro e w' ⟨rfl, rfl⟩
  have R0 : RowB (w.alloc (.cells (madeCells #[.int .u8 0] (p.length + 10)) 5)) w.heap.size (List.replicate (p.length + 10) 0) := by
    have := Blk.new (w := w) (t := 5) (cs := madeCells #[.int .u8 0] (p.length + 10))
    unfold RowB
    rw [← made_zeros8]
    exact this
  have b0 := lat_alloc (lat_alloc (Below.refl w.heap.size w) (.cells (madeCells #[.int .u8 0] (p.length + 10)) 5)) (.cells #[.int .u8 90, .int .u8 165, .int .u8 1, .int .u8 k, .int .u8 ((p.length : Int) / 256), .int .u8 p.length] 5)
  have R1 : RowB ((w.alloc (.cells (madeCells #[.int .u8 0] (p.length + 10)) 5)).alloc (.cells #[.int .u8 90, .int .u8 165, .int .u8 1, .int .u8 k, .int .u8 ((p.length : Int) / 256), .int .u8 p.length] 5)) w.heap.size (List.replicate (p.length + 10) 0) := R0.below (lat_alloc (Below.refl _ _) _)
  have S1 : Ints .u8 ((w.alloc (.cells (madeCells #[.int .u8 0] (p.length + 10)) 5)).alloc (.cells #[.int .u8 90, .int .u8 165, .int .u8 1, .int .u8 k, .int .u8 ((p.length : Int) / 256), .int .u8 p.length] 5)) ((w.alloc (.cells (madeCells #[.int .u8 0] (p.length + 10)) 5)).alloc (.cells #[.int .u8 90, .int .u8 165, .int .u8 1, .int .u8 k, .int .u8 ((p.length : Int) / 256), .int .u8 p.length] 5)).heap.size (some ⟨w.heap.size + 1, 0, none⟩) [90, 165, 1, k, (p.length : Int) / 256, p.length] := by
    have := ints_new (k := .u8) (w := w.alloc (.cells (madeCells #[.int .u8 0] (p.length + 10)) 5)) (C := #[.int .u8 90, .int .u8 165, .int .u8 1, .int .u8 k, .int .u8 ((p.length : Int) / 256), .int .u8 p.length]) (T := 5) (f := (0, 0)) (l := [90, 165, 1, k, (p.length : Int) / 256, p.length]) (fun i hi => by
      simp at hi
      rcases i with _ | _ | _ | _ | _ | _ | i <;> first | rfl | omega)
    rw [heap_size w] at this
    exact this
  have N1 := Lib.hid (show (p.length : Int) / 256 = 0 by omega)
  have HBB := Lib.hid (body_byte k0' k1' hby (by omega))
  have hsb := hs.below b0
  clear R0
  generalize hW : (w.alloc (.cells (madeCells #[.int .u8 0] (p.length + 10)) 5)).alloc (.cells #[.int .u8 90, .int .u8 165, .int .u8 1, .int .u8 k, .int .u8 ((p.length : Int) / 256), .int .u8 p.length] 5) = W1 at R1 b0 S1 hsb
  have HW := Lib.hid hW
  clear hW
  go_wp2_with (first
    | (obtain ⟨ii, hi0, hi1, hi2, hi3⟩ := info_parts byte_info; refine wpList_make_row _ rfl _ _ 22 rfl 5 ii (.int .u8 0) Try.underlying22 hi0 hi1 hi2 rfl .i64 .i64 (p.length + 10) rfl rfl (by rw [hi3]; omega) (by omega) ?_)
    | (rw [HW.out]; refine wpList_copy_bytes rfl (.tmp 21) (.tmp 31) 22 rfl Try.underlying22 (by kernel_rfl) w.heap.size 0 (p.length + 10) (p.length + 10) _ 6 6 rfl rfl (List.replicate (p.length + 10) 0) [90, 165, 1, k, (p.length : Int) / 256, p.length] R1 rfl S1 (by omega) (by simp) w.heap.size w b0 (Nat.le_refl _) ?_; intro w2 R2 b2)
    | (have hs2 := (hs.below b2).more b2.size; refine wpList_copy_bytes rfl (.tmp 34) (.tmp 35) 22 rfl Try.underlying22 (by kernel_rfl) w.heap.size 6 (p.length + 4) (p.length + 4) _ p.length c rfl rfl (splice (List.replicate (p.length + 10) 0) 0 [90, 165, 1, k, (p.length : Int) / 256, p.length]) p R2 rfl hs2 (by omega) (by rw [length_splice _ _ _ (by simp)]; simp; omega) w.heap.size w b2 (Nat.le_refl _) ?_; intro w3 R3 b3; rw [enc_splice p.length _ p rfl rfl, N1.out] at R3; clear hs2 R2 b2)
    | (go_at_call 19; have HP := R3.part 2 (p.length + 4); rw [enc_part _ p rfl] at HP; have HS := sum_any (some ⟨w.heap.size, 2, none⟩) (p.length + 8) (bodyL k p) w3 HP HBB.out (by rw [body_len]; omega); rw [body_len] at HS; refine HS.mono ?_; clear HS HP; rintro e w' ⟨rfl, rfl⟩; have u0 := un_lo (upd 0#32 (bodyL k p)); have u1 := un_hi (upd 0#32 (bodyL k p)))
    | (show wpList _ _ _ (Oper.mk (some 60) _ _ _ _ _ :: _) _ _; generalize hw4 : w3.alloc (.cells #[.int .u8 (un (upd 0#32 (bodyL k p)) / 16777216), .int .u8 (un (upd 0#32 (bodyL k p)) / 65536 % 256), .int .u8 (un (upd 0#32 (bodyL k p)) / 256 % 256), .int .u8 (un (upd 0#32 (bodyL k p)) % 256)] 5) = w4 at *; have R4 : RowB w4 w.heap.size _ := hw4 ▸ R3.below (lat_alloc (Below.refl w3.heap.size w3) _); have b4 : Below w.heap.size w w4 := hw4 ▸ b3.alloc b3.size _; have S4 : Ints .u8 w4 w4.heap.size (some ⟨w3.heap.size, 0, none⟩) (four (upd 0#32 (bodyL k p))) := by { subst hw4; exact ints_new (fun i hi => by simp [four] at hi; rcases i with _ | _ | _ | _ | i <;> first | rfl | omega) }; clear hw4; refine wpList_copy_bytes rfl (.tmp 47) (.tmp 59) 22 rfl Try.underlying22 (by kernel_rfl) w.heap.size (p.length + 6) _ _ _ 4 4 rfl rfl _ (four (upd 0#32 (bodyL k p))) R4 rfl S4 (by omega) (by simp only [List.length_append, List.length_cons, List.length_nil]; omega) w.heap.size w b4 (Nat.le_refl _) ?_; intro w5 R5 b5; rw [enc_end _ p _ rfl rfl] at R5))
  go_ret2
  refine ⟨b5, .inl ⟨by simp [encOk]; omega, w.heap.size, rfl, Nat.le_refl _, ?_⟩⟩
  have e : encL k p = [90, 165, 1, k, 0, (p.length : Int)] ++ (p ++ four (upd 0#32 (bodyL k p))) := by simp [encL, bodyL]
  rw [e]
  exact R5
end Go.Proofs.Ytahemaondkjpiaa

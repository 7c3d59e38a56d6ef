/-
  Slices of numbers that a call itself makes: rows of its own, and append onto them.
-/
import Derived.Test.YtkpbkahmbbkcdaaK
import Derived.Maps.AppendAt
import Derived.Deep.AppendLies
import Derived.RegionTactic
import Derived.OwnWalk
namespace Go.Proofs.Ytkpbkahmbbkcdaa
open Go.ChangeShapes Go.WideShapes Go.ChangeAt Go.RowKit

/-- The slice v is the call's own, from block base on, and holds the numbers l. -/
def Own (k : IntKind) (e : TypeId) (w : World) (base : Nat) (v : Value) (l : List Int) : Prop := w.ownsRow base e 1 v l.length (l.map (Value.int k))
theorem Own.nil_ (k : IntKind) (e : TypeId) (w : World) (base : Nat) : Own k e w base (.slice none 0 0) [] := ⟨by simp, .inl ⟨rfl, rfl⟩⟩
theorem Own.ints {k : IntKind} {e : TypeId} {w : World} {base : Nat} {v : Value} {l : List Int} (h : Own k e w base v l) :
    ∃ A c, v = .slice A l.length c ∧ l.length ≤ c ∧ c ≤ 9223372036854775807 ∧ Ints k w w.heap.size A l := by
  obtain ⟨hl, ⟨rfl, h0⟩ | ⟨g, cap, cur, rfl, hb, hh, hc, hm, hsz, ht⟩⟩ := h
  · exact ⟨none, 0, by rw [h0], by omega, by omega, fun hp => absurd hp (by omega)⟩
  · refine ⟨some ⟨g, 0, none⟩, cap, rfl, hc, by unfold maxLen at hm; omega, fun _ => ⟨g, 0, rfl, ?_, fun i hi => ?_⟩⟩
    · rcases Nat.lt_or_ge g w.heap.size with h | h
      · exact h
      · rw [Array.getElem?_eq_none h] at hh; cases hh
    · rw [Nat.zero_add, cell_of_row w g i cur e (0, 0) hh]
      have h1 : (cur.toList.take (l.length * 1))[i]? = (l.map (Value.int k))[i]? := by rw [ht]
      rw [List.getElem?_take_of_lt (by omega), Array.getElem?_toList] at h1
      rw [h1]; simp [at_, hi]
theorem Own.drewN {k : IntKind} {e : TypeId} {w : World} {base n : Nat} {v : Value} {l : List Int} (h : Own k e w base v l) : Own k e (w.drewN n) base v l := h
theorem Own.lt {k : IntKind} {e : TypeId} {w : World} {base b : Nat} {v : Value} {l : List Int} (h : Own k e w base v l) (hv : v.ownBlock = some b) : base ≤ b ∧ b < w.heap.size := by
  obtain ⟨hl, ⟨rfl, h0⟩ | ⟨g, cap, cur, rfl, hb, hh, hc, hm, hsz, ht⟩⟩ := h
  · simp [Value.ownBlock] at hv
  · have e : g = b := by simpa [Value.ownBlock] using hv
    subst e
    refine ⟨hb, ?_⟩
    rcases Nat.lt_or_ge g w.heap.size with h | h
    · exact h
    · rw [Array.getElem?_eq_none h] at hh; cases hh
/-- A world in which the row's own block is as it was still owns the row. -/
theorem Own.block {k : IntKind} {e : TypeId} {w w' : World} {base : Nat} {v : Value} {l : List Int} (h : Own k e w base v l) (hk : ∀ b, v.ownBlock = some b → w'.heap[b]? = w.heap[b]?) : Own k e w' base v l := by
  obtain ⟨hl, h0 | ⟨g, cap, cur, rfl, hb, hh, hc, hm, hsz, ht⟩⟩ := h
  · exact ⟨hl, .inl h0⟩
  · exact ⟨hl, .inr ⟨g, cap, cur, rfl, hb, (hk g rfl).trans hh, hc, hm, hsz, ht⟩⟩
theorem Own.below {k : IntKind} {e : TypeId} {w w' : World} {base : Nat} {v : Value} {l : List Int} (h : Own k e w base v l) (hb : Below w.heap.size w w') : Own k e w' base v l :=
  h.block fun b hv => hb.block b (h.lt hv).2
theorem Own.alloc {k : IntKind} {e : TypeId} {w : World} {base : Nat} {v : Value} {l : List Int} (h : Own k e w base v l) (o : Obj) : Own k e (w.alloc o) base v l := h.below (lat_alloc (Below.refl _ _) o)
theorem Own.rebase {k : IntKind} {e : TypeId} {w : World} {base base' : Nat} {v : Value} {l : List Int} (h : Own k e w base v l) (hb : base' ≤ base) : Own k e w base' v l := by
  obtain ⟨hl, h0 | ⟨g, cap, cur, rfl, hb', hh⟩⟩ := h
  · exact ⟨hl, .inl h0⟩
  · exact ⟨hl, .inr ⟨g, cap, cur, rfl, by omega, hh⟩⟩

theorem own_new {k : IntKind} {e : TypeId} {w : World} {base : Nat} (cs : Array Value) (l : List Int) (hc : cs.toList = l.map (Value.int k)) (hb : base ≤ w.heap.size) (hl : l.length ≤ 1000000000000) :
    Own k e (w.alloc (.cells cs e)) base (.slice (some ⟨w.heap.size, 0, none⟩) l.length l.length) l := by
  have hsz : cs.size = l.length := by rw [← Array.length_toList, hc, List.length_map]
  refine ⟨by simp, .inr ⟨w.heap.size, l.length, cs, rfl, hb, heap_new w _, Nat.le_refl _, by unfold maxLen; omega, by omega, ?_⟩⟩
  rw [hc, List.take_of_length_le (by simp)]

theorem Own.form {k : IntKind} {e : TypeId} {w : World} {base : Nat} {v : Value} {l : List Int} (h : Own k e w base v l) (hl : 0 < l.length) :
    ∃ g cap, v = .slice (some ⟨g, 0, none⟩) l.length cap ∧ base ≤ g ∧ g < w.heap.size := by
  obtain ⟨_, ⟨_, h0⟩ | ⟨g, cap, cur, rfl, hb, hh, _⟩⟩ := h
  · omega
  · refine ⟨g, cap, rfl, hb, ?_⟩
    rcases Nat.lt_or_ge g w.heap.size with h | h
    · exact h
    · rw [Array.getElem?_eq_none h] at hh; cases hh
theorem Own.cell {k : IntKind} {e : TypeId} {w : World} {base g n cap : Nat} {l : List Int} (h : Own k e w base (.slice (some ⟨g, 0, none⟩) n cap) l) {i : Nat} (hi : i < l.length) :
    w.cell? ⟨g, i, none⟩ = some (.int k (at_ l i)) ∧ w.frozen? ⟨g, i, none⟩ = false := by
  obtain ⟨_, ⟨h0, _⟩ | ⟨g', cap', cur, hv, hb, hh, hc, hm, hsz, ht⟩⟩ := h
  · cases h0
  · injection hv with e1 e2 e3
    injection e1 with e1
    injection e1 with e1 _ _
    subst e1
    refine ⟨?_, by simp [World.frozen?, hh]⟩
    rw [cell_of_row w g i cur e (0, 0) hh]
    have h1 : (cur.toList.take (l.length * 1))[i]? = (l.map (Value.int k))[i]? := by rw [ht]
    rw [List.getElem?_take_of_lt (by omega), Array.getElem?_toList] at h1
    rw [h1]; simp [at_, hi]
theorem Own.set {k : IntKind} {e : TypeId} {w : World} {base g n cap : Nat} {l : List Int} (h : Own k e w base (.slice (some ⟨g, 0, none⟩) n cap) l) {i : Nat} (hi : i < l.length) (x : Int) :
    Own k e (w.setCell ⟨g, i, none⟩ (.int k x)) base (.slice (some ⟨g, 0, none⟩) n cap) (l.set i x) := by
  obtain ⟨hlen, ⟨h0, _⟩ | ⟨g', cap', cur, hv, hb, hh, hc, hm, hsz, ht⟩⟩ := h
  · cases h0
  · injection hv with e1 e2 e3
    injection e1 with e1
    injection e1 with e1 _ _
    subst e1 e2 e3
    refine ⟨by simp, .inr ⟨g, cap, cur.setIfInBounds i (.int k x), by simp, hb, ?_, by simpa using hc, hm, by simpa using hsz, ?_⟩⟩
    · simp [World.setCell, Array.getElem?_modify, hh]
    · rw [Array.toList_setIfInBounds, List.take_set, List.length_set, ht, List.map_set]

theorem Ints.take {k : IntKind} {w : World} {B : Nat} {A : Option Addr} {l : List Int} (h : Ints k w B A l) (n : Nat) : Ints k w B A (l.take n) := fun h0 => by
  rw [List.length_take] at h0
  obtain ⟨b, off, hA, hb, hc⟩ := h (by omega)
  refine ⟨b, off, hA, hb, fun i hi => ?_⟩
  rw [List.length_take] at hi
  rw [hc i (by omega)]
  simp only [at_, List.getD_eq_getElem?_getD]
  rw [List.getElem?_take_of_lt (by omega)]
theorem Byte.take {l : List Int} (h : Byte l) (n : Nat) : Byte (l.take n) := fun x hx => h x (List.mem_of_mem_take hx)
theorem Byte.drop {l : List Int} (h : Byte l) (n : Nat) : Byte (l.drop n) := fun x hx => h x (List.mem_of_mem_drop hx)
theorem Byte.app {a b : List Int} (ha : Byte a) (hb : Byte b) : Byte (a ++ b) := fun n hn => by
  rcases List.mem_append.1 hn with h | h
  · exact ha n h
  · exact hb n h
theorem Byte.one {x : Int} (h0 : 0 ≤ x) (h1 : x ≤ 255) : Byte [x] := fun n hn => by rw [List.mem_singleton] at hn; subst hn; exact ⟨h0, h1⟩
theorem Byte.set {l : List Int} (h : Byte l) (i : Nat) {x : Int} (h0 : 0 ≤ x) (h1 : x ≤ 255) : Byte (l.set i x) := fun n hn => by
  rcases List.mem_or_eq_of_mem_set hn with h' | h'
  · exact h n h'
  · subst h'; exact ⟨h0, h1⟩
/-- A slice that begins later. -/
theorem Ints.drop {k : IntKind} {w : World} {B b off : Nat} {l : List Int} (h : Ints k w B (some ⟨b, off, none⟩) l) (n : Nat) : Ints k w B (some ⟨b, off + n, none⟩) (l.drop n) := fun h0 => by
  rw [List.length_drop] at h0
  obtain ⟨b', off', hA, hb, hc⟩ := h (by omega)
  injection hA with hA
  injection hA with e1 e2 _
  subst e1 e2
  refine ⟨b, off + n, rfl, hb, fun i hi => ?_⟩
  rw [List.length_drop] at hi
  rw [Nat.add_assoc, hc (n + i) (by omega)]
  simp [at_]
/-- The beginning of a row of the call's own. -/
theorem Own.take {k : IntKind} {e : TypeId} {w : World} {base g n cap : Nat} {l : List Int} (h : Own k e w base (.slice (some ⟨g, 0, none⟩) n cap) l) (i : Nat) (hi : i ≤ l.length) :
    Own k e w base (.slice (some ⟨g, 0, none⟩) i cap) (l.take i) := by
  obtain ⟨hlen, ⟨h0, _⟩ | ⟨g', cap', cur, hv, hb, hh, hc, hm, hsz, ht⟩⟩ := h
  · cases h0
  · injection hv with e1 e2 e3
    injection e1 with e1
    injection e1 with e1 _ _
    subst e1 e3
    have hle : (l.take i).length = i := by rw [List.length_take]; omega
    refine ⟨by simp, .inr ⟨g, cap, cur, by rw [hle], hb, hh, by omega, hm, hsz, ?_⟩⟩
    rw [hle, List.map_take, ← ht, List.take_take, Nat.min_eq_left (by omega)]; simp

section
variable {P : Program} {w : World}
theorem run_append_none (base : Nat) (t ty e : TypeId) (i : TypeInfo) (size : Nat) (ht : P.underlying t = some (.slice e)) (hi : P.info? e = some i)
    (v : Value) (n : Nat) (xs : List Value) (hown : w.ownsRow base e size v n xs) (c : Nat) : (Builtin.append_ #[t, t] ty #[v, .slice none 0 c]).run P w = .ok v w := by
  rcases hown.2 with ⟨rfl, rfl⟩ | ⟨g, cap, cur, rfl, _, _, hnc, _⟩
  · simp [Builtin.append_, run_underlying ht, sizeOf, typeInfo, hi, Builtin.lenOf, Builtin.firstCells]
  · simp [Builtin.append_, run_underlying ht, sizeOf, typeInfo, hi, Builtin.lenOf, Builtin.firstCells, hnc, storeCells]

theorem run_append_ints (base : Nat) (t ty e : TypeId) (k : IntKind) (bytes : Nat) (ht : P.underlying t = some (.slice e))
    (hin : (P.info? e).map (fun i => (i.zero, i.size, i.bytes)) = some (some (.int k 0), 1, bytes)) (v : Value) (l : List Int) (hown : Own k e w base v l)
    (A : Option Addr) (c : Nat) (m : List Int) (hm : Ints k w w.heap.size A m) (hlen : l.length + m.length ≤ 1000000000000) (hby : bytes ≤ 8) (hbase : base ≤ w.heap.size) :
    ∃ v' w', (Builtin.append_ #[t, t] ty #[v, .slice A m.length c]).run P w = .ok v' w' ∧ Own k e w' base v' (l ++ m) ∧ w.grownBy w' v.ownBlock ∧
      (v'.ownBlock = v.ownBlock ∨ v'.ownBlock = some w.heap.size) := by
  obtain ⟨i0, hi, hz0, hz1, hz2⟩ := info_parts hin
  rcases Nat.eq_zero_or_pos m.length with h0 | h0
  · have hn : m = [] := List.eq_nil_of_length_eq_zero h0
    subst hn
    rcases A with _ | ad
    · exact ⟨v, w, run_append_none base t ty e i0 1 ht hi v _ _ hown c, by rw [List.append_nil]; exact hown, World.grownBy.refl w _, .inl rfl⟩
    · obtain ⟨v', w', h1, h2, h3, _, h5⟩ := run_append_own_at (P := P) w base t ty e i0 _ 1 bytes ht hi hz0 hz1 hz2 rfl (by omega) v _ _ hown ad 0 c [] rfl (fun j u h => by cases h) (fun u h => by cases h)
        (by unfold maxLen; simp at hlen ⊢; omega) (by have := Nat.mul_le_mul (show l.length + 0 ≤ 1000000000000 by simpa using hlen) hby; omega) hbase
      exact ⟨v', w', h1, by unfold Own; simpa using h2, h3, h5⟩
  · obtain ⟨b, off, rfl, hb, hc⟩ := hm h0
    obtain ⟨v', w', h1, h2, h3, _, h5⟩ := run_append_own_at (P := P) w base t ty e i0 _ 1 bytes ht hi hz0 hz1 hz2 rfl (by omega) v _ _ hown ⟨b, off, none⟩ m.length c (m.map (Value.int k)) (by simp)
      (fun j u h => by
        rw [List.getElem?_map] at h
        cases hj : m[j]? with
        | none => rw [hj] at h; cases h
        | some x =>
          rw [hj] at h
          have hjl : j < m.length := by
            rcases Nat.lt_or_ge j m.length with h' | h'
            · exact h'
            · rw [List.getElem?_eq_none h'] at hj; cases hj
          have e1 : (Addr.add ⟨b, off, none⟩ j) = ⟨b, off + j, none⟩ := by unfold Addr.add; split <;> simp_all
          rw [e1, hc j hjl]
          simpa [at_, hj] using h)
      (fun u h => by obtain ⟨x, _, rfl⟩ := List.mem_map.1 h; rfl)
      (by unfold maxLen; omega) (by have := Nat.mul_le_mul hlen hby; omega) hbase
    exact ⟨v', w', h1, by unfold Own; simpa using h2, h3, h5⟩

theorem wp_append_ints {o : Oper} {a : Act} {K : Act → World → Prop} {Q : Exit → Act → World → Prop} (s x : Operand) (t : TypeId)
    (ho : o.op = .call { callee := .builtin .append, args := #[s, x], argTypes := #[t, t] })
    (base : Nat) (e : TypeId) (k : IntKind) (bytes : Nat) (ht : P.underlying t = some (.slice e))
    (hin : (P.info? e).map (fun i => (i.zero, i.size, i.bytes)) = some (some (.int k 0), 1, bytes)) (v : Value) (l : List Int) (hs : a.eval s = v) (hown : Own k e w base v l)
    (A : Option Addr) (c : Nat) (m : List Int) (n : Nat) (hn : m.length = n) (hx : a.eval x = .slice A n c) (hm : Ints k w w.heap.size A m) (hlen : l.length + m.length ≤ 1000000000000) (hby : bytes ≤ 8) (hbase : base ≤ w.heap.size)
    (h : ∀ v' w', Own k e w' base v' (l ++ m) → w.grownBy w' v.ownBlock → (v'.ownBlock = v.ownBlock ∨ v'.ownBlock = some w.heap.size) → K (a.put o.dst v') w') : o.wp P a w K Q := by
  subst hn
  obtain ⟨v', w', hrun, h2, h3, h4⟩ := run_append_ints (P := P) base t o.type e k bytes ht hin v l hown A c m hm hlen hby hbase
  unfold Oper.wp execOp
  simp only [ho, resolve, invoke, builtin, Sem.run_bind, Sem.run_pure, Result.andThen_ok, List.map_toArray, List.map_cons, List.map_nil, hs, hx, hrun]
  exact h v' w' h2 h3 h4

/-- append of numbers onto a row of the call's own; the source is nil, empty or not. -/
theorem wpList_append_ints {ops : Array Oper} {rest : List Oper} {o : Oper} {a : Act} {Q : Exit → Act → World → Prop} (hgd : o.guard = none) (s x : Operand) (t : TypeId)
    (ho : o.op = .call { callee := .builtin .append, args := #[s, x], argTypes := #[t, t] })
    (base : Nat) (e : TypeId) (k : IntKind) (bytes : Nat) (ht : P.underlying t = some (.slice e))
    (hin : (P.info? e).map (fun i => (i.zero, i.size, i.bytes)) = some (some (.int k 0), 1, bytes)) (v : Value) (l : List Int) (hs : a.eval s = v) (hown : Own k e w base v l)
    (A : Option Addr) (c : Nat) (m : List Int) (n : Nat) (hn : m.length = n) (hx : a.eval x = .slice A n c) (hm : Ints k w w.heap.size A m) (hlen : l.length + m.length ≤ 1000000000000) (hby : bytes ≤ 8) (hbase : base ≤ w.heap.size)
    (h : ∀ v' w', Own k e w' base v' (l ++ m) → w.grownBy w' v.ownBlock → (v'.ownBlock = v.ownBlock ∨ v'.ownBlock = some w.heap.size) → wpList P ops Q rest (a.put o.dst v') w') : wpList P ops Q (o :: rest) a w :=
  wpList_plain hgd fun _ hK => wp_append_ints s x t ho base e k bytes ht hin v l hs hown A c m n hn hx hm hlen hby hbase fun v' w' h2 h3 h4 => hK _ _ (h v' w' h2 h3 h4)
/-- The same in a statement whose order is open. -/
theorem step_append_ints {ops : Array Oper} {o : Oper} {a : Act} {K : Act → World → Prop} {Q : Exit → Act → World → Prop} {E : Prop} (hgd : o.guard = none) (s x : Operand) (t : TypeId)
    (ho : o.op = .call { callee := .builtin .append, args := #[s, x], argTypes := #[t, t] })
    (base : Nat) (e : TypeId) (k : IntKind) (bytes : Nat) (ht : P.underlying t = some (.slice e))
    (hin : (P.info? e).map (fun i => (i.zero, i.size, i.bytes)) = some (some (.int k 0), 1, bytes)) (v : Value) (l : List Int) (hs : a.eval s = v) (hown : Own k e w base v l)
    (A : Option Addr) (c : Nat) (m : List Int) (n : Nat) (hn : m.length = n) (hx : a.eval x = .slice A n c) (hm : Ints k w w.heap.size A m) (hlen : l.length + m.length ≤ 1000000000000) (hby : bytes ≤ 8) (hbase : base ≤ w.heap.size)
    (h : ∀ v' w', Own k e w' base v' (l ++ m) → w.grownBy w' v.ownBlock → (v'.ownBlock = v.ownBlock ∨ v'.ownBlock = some w.heap.size) → K (a.put o.dst v') w') :
    if Region.wanted o (yielded ops a.tmps) = true then Oper.wp P o a w K Q else E := by
  have hw : Region.wanted o (yielded ops a.tmps) = true := by simp [Region.wanted, hgd]
  rw [if_pos hw]
  exact wp_append_ints s x t ho base e k bytes ht hin v l hs hown A c m n hn hx hm hlen hby hbase h
end
end Go.Proofs.Ytkpbkahmbbkcdaa

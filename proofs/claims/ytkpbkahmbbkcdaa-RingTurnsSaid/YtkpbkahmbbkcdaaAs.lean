/-
  append of one struct to a row of the call's own; rows of structs read item by item.
-/
import Derived.Test.YtkpbkahmbbkcdaaG
namespace Go.Proofs.Ytkpbkahmbbkcdaa
open Go.ChangeShapes Go.WideShapes Go.ChangeAt Go.RowKit
set_option linter.unusedVariables false

theorem wpList_append_one {P : Program} {w : World} {ops : Array Oper} {rest : List Oper} {o : Oper} {a : Act} {Q : Exit → Act → World → Prop} (hgd : o.guard = none) (s x : Operand) (t : TypeId)
    (ho : o.op = .call { callee := .builtin .append, args := #[s, x], argTypes := #[t, t] })
    (base : Nat) (e : TypeId) (z : Value) (size bytes : Nat) (ht : P.underlying t = some (.slice e))
    (hin : (P.info? e).map (fun i => (i.zero, i.size, i.bytes)) = some (some z, size, bytes)) (hzs : z.cells.size = size) (hsz : 0 < size) (v : Value) (n : Nat) (xs : List Value) (hs : a.eval s = v) (hown : w.ownsRow base e size v n xs)
    (b c : Nat) (T : TypeId) (cs : Array Value) (hx : a.eval x = .slice (some ⟨b, 0, none⟩) 1 c) (hl : cs.size = size) (hB : Blk w b T cs) (h1 : ∀ u ∈ cs.toList, u.oneCell' = true) (hn : n ≤ 1000000) (hby : bytes ≤ 1000) (hbase : base ≤ w.heap.size)
    (h : ∀ g' c' w', w'.ownsRow base e size (.slice (some ⟨g', 0, none⟩) (n + 1) c') (n + 1) (xs ++ cs.toList) → w.grownBy w' v.ownBlock → (some g' = v.ownBlock ∨ g' = w.heap.size) → base ≤ g' → wpList P ops Q rest (a.put o.dst (.slice (some ⟨g', 0, none⟩) (n + 1) c')) w') : wpList P ops Q (o :: rest) a w := by
  obtain ⟨i0, hi, hz0, hz1, hz2⟩ := info_parts hin
  refine wpList_append_own_at w hgd s x t ho base e i0 _ size bytes ht hi hz0 hz1 hz2 hzs hsz v n xs hs hown ⟨b, 0, none⟩ 1 c cs.toList hx (by simp [hl]) (fun j u hj => ?_) h1 (by unfold maxLen; omega) ?_ hbase ?_
  · have e1 : (Addr.add ⟨b, 0, none⟩ j) = ⟨b, j, none⟩ := by unfold Addr.add; split <;> simp_all
    rw [e1, hB.cell j]
    simpa using hj
  · have := Nat.mul_le_mul (show n + 1 ≤ 1000001 by omega) hby
    omega
  · intro v' w' hown' hg' _ hat
    obtain ⟨hlen, ⟨rfl, h0⟩ | ⟨g', c', cur, rfl, hb', hrest⟩⟩ := hown'
    · omega
    · exact h g' c' w' ⟨hlen, .inr ⟨g', c', cur, rfl, hb', hrest⟩⟩ hg' (by
        rcases hat with h | h
        · exact .inl h
        · right; simpa [Value.ownBlock] using h) hb'
/-- Rows of items of m cells each. -/
theorem flat_get {α : Type} (f : α → List Value) (m : Nat) (hf : ∀ x, (f x).length = m) : ∀ (C : List α) (i j : Nat) (x : α), C[i]? = some x → j < m → (C.flatMap f)[i * m + j]? = (f x)[j]?
  | [], _, _, _, h, _ => by cases h
  | y :: C, 0, j, x, h, hj => by
    have e : y = x := by simpa using h
    subst e
    rw [List.flatMap_cons, Nat.zero_mul, Nat.zero_add, List.getElem?_append_left (by rw [hf]; exact hj)]
  | y :: C, i + 1, j, x, h, hj => by
    rw [List.flatMap_cons, List.getElem?_append_right (by rw [hf, Nat.succ_mul]; omega), hf, show (i + 1) * m + j - m = i * m + j by rw [Nat.succ_mul]; omega]
    exact flat_get f m hf C i j x (by simpa using h) hj
theorem flat_len {α : Type} (f : α → List Value) (m : Nat) (hf : ∀ x, (f x).length = m) : ∀ C : List α, (C.flatMap f).length = C.length * m
  | [] => by simp
  | x :: C => by rw [List.flatMap_cons, List.length_append, hf, flat_len f m hf C, List.length_cons, Nat.succ_mul]; omega
/-- What a row of the call's own holds, item by item. -/
theorem row_get {α : Type} {f : α → List Value} {m : Nat} (hf : ∀ x, (f x).length = m) {w : World} {base : Nat} {e : TypeId} {v : Value} {C : List α} (h : w.ownsRow base e m v C.length (C.flatMap f)) :
    ∃ A c, v = .slice A C.length c ∧ C.length ≤ c ∧ (∀ a, A = some a → base ≤ a.block) ∧ (0 < C.length → ∃ b, A = some ⟨b, 0, none⟩ ∧ b < w.heap.size ∧ ∀ (i : Nat) (x : α), C[i]? = some x → ∀ j, j < m → w.cell? ⟨b, i * m + j, none⟩ = (f x)[j]?) := by
  obtain ⟨hl, ⟨rfl, h0⟩ | ⟨g, cap, cur, rfl, hb, hh, hc, hm, hsz, ht⟩⟩ := h
  · exact ⟨none, 0, by rw [h0], by omega, (fun a ha => by cases ha), (fun hp => by omega)⟩
  · refine ⟨some ⟨g, 0, none⟩, cap, rfl, hc, fun a ha => by injection ha with ha; subst ha; exact hb, fun _ => ⟨g, rfl, ?_, fun i x hi j hj => ?_⟩⟩
    · rcases Nat.lt_or_ge g w.heap.size with h | h
      · exact h
      · rw [Array.getElem?_eq_none h] at hh; cases hh
    · rw [cell_of_row w g _ cur e (0, 0) hh]
      have hil : i < C.length := by
        rcases Nat.lt_or_ge i C.length with h | h
        · exact h
        · rw [List.getElem?_eq_none h] at hi; cases hi
      have hlt : i * m + j < C.length * m := by
        have := Nat.mul_le_mul_right m (show i + 1 ≤ C.length by omega)
        rw [Nat.succ_mul] at this; omega
      have h1 : (cur.toList.take (C.length * m))[i * m + j]? = (C.flatMap f)[i * m + j]? := by rw [ht]
      rw [List.getElem?_take_of_lt hlt, Array.getElem?_toList, flat_get f m hf C i j x hi hj] at h1
      exact h1
/-- A row that another block's change leaves alone. -/
theorem row_block {w w' : World} {base : Nat} {e : TypeId} {size : Nat} {v : Value} {n : Nat} {xs : List Value} (h : w.ownsRow base e size v n xs) (hk : ∀ b, base ≤ b → b < w.heap.size → v.ownBlock = some b → w'.heap[b]? = w.heap[b]?) : w'.ownsRow base e size v n xs := by
  obtain ⟨hl, h0 | ⟨g, cap, cur, rfl, hb, hh, hc, hm, hsz, ht⟩⟩ := h
  · exact ⟨hl, .inl h0⟩
  · have hlt : g < w.heap.size := by
      rcases Nat.lt_or_ge g w.heap.size with h | h
      · exact h
      · rw [Array.getElem?_eq_none h] at hh; cases hh
    exact ⟨hl, .inr ⟨g, cap, cur, rfl, hb, (hk g hb hlt rfl).trans hh, hc, hm, hsz, ht⟩⟩
theorem row_nil {w : World} {base : Nat} {e : TypeId} {size : Nat} : w.ownsRow base e size (.slice none 0 0) 0 [] := ⟨by simp, .inl ⟨rfl, rfl⟩⟩
theorem row_lt {w : World} {base : Nat} {e : TypeId} {size : Nat} {v : Value} {n b : Nat} {xs : List Value} (h : w.ownsRow base e size v n xs) (hv : v.ownBlock = some b) : base ≤ b ∧ b < w.heap.size := by
  obtain ⟨hl, ⟨rfl, h0⟩ | ⟨g, cap, cur, rfl, hb, hh, hc, hm, hsz, ht⟩⟩ := h
  · cases hv
  · have e : g = b := by simpa [Value.ownBlock] using hv
    subst e
    refine ⟨hb, ?_⟩
    rcases Nat.lt_or_ge g w.heap.size with h | h
    · exact h
    · rw [Array.getElem?_eq_none h] at hh; cases hh
end Go.Proofs.Ytkpbkahmbbkcdaa

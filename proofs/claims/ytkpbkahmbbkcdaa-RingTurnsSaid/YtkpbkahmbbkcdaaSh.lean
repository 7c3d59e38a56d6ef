/-
  The shapes of junctions that decks draw; what phases are. Conditions: none.
-/
import Derived.Test.YtkpbkahmbbkcdaaDk
import Derived.Test.YtkpbkahmbbkcdaaAs
import Derived.Test.YtkpbkahmbbkcdaaMg
import Derived.Outline
namespace Go.Proofs.Ytkpbkahmbbkcdaa
open Go.ChangeShapes Go.WideShapes Go.RowKit
set_option linter.unusedVariables false

theorem ret_i {k : IntKind} {a b : Int} (h : a = b) : Ending.returned (.int k a) = .returned (.int k b) := by rw [h]
theorem ret_b {a b : Bool} (h : a = b) : Ending.returned (.bool a) = .returned (.bool b) := by rw [h]
def shapeL : Nat → List (Int × Int)
  | 0 => [(0, 0), (0, 0)]
  | 1 => [(0, 0), (1, 0), (0, 1), (1, 1)]
  | 2 => [(0, 0), (1, 0), (0, 0)]
  | 3 => [(0, 0), (0, 0), (1, 0), (1, 0), (0, 1), (0, 1), (1, 1), (1, 1)]
  | 4 => [(1, 0), (0, 1), (0, 2)]
  | _ => [(0, 0)]
def prAt (S : List (Int × Int)) (i : Nat) : Int × Int := S.getD i (0, 0)
/-- A slice of pairs, below block B. -/
def Prs (w : World) (B : Nat) (A : Option Addr) (S : List (Int × Int)) : Prop :=
  0 < S.length → ∃ b off, A = some ⟨b, off, none⟩ ∧ b < B ∧ ∀ i, i < S.length → w.cell? ⟨b, off + i * 2, none⟩ = some (.int .i64 (prAt S i).1) ∧ w.cell? ⟨b, off + i * 2 + 1, none⟩ = some (.int .i64 (prAt S i).2)
theorem Prs.at {w : World} {B : Nat} {A : Option Addr} {S : List (Int × Int)} (h : Prs w B A S) {i : Nat} (hi : i < S.length) : ∃ b off, A = some ⟨b, off, none⟩ ∧ b < B ∧ w.cell? ⟨b, off + i * 2, none⟩ = some (.int .i64 (prAt S i).1) ∧ w.cell? ⟨b, off + i * 2 + 1, none⟩ = some (.int .i64 (prAt S i).2) := by
  obtain ⟨b, off, hA, hB, hc⟩ := h (by omega)
  exact ⟨b, off, hA, hB, hc i hi⟩
theorem Prs.grow {w w' : World} {A : Option Addr} {S : List (Int × Int)} (h : Prs w w.heap.size A S) (hb : Below w.heap.size w w') : Prs w' w'.heap.size A S := fun h0 => by
  obtain ⟨b, off, hA, hB, hc⟩ := h h0
  exact ⟨b, off, hA, Nat.lt_of_lt_of_le hB hb.size, fun i hi => ⟨(hb.cell (p := ⟨b, off + i * 2, none⟩) hB).trans (hc i hi).1, (hb.cell (p := ⟨b, off + i * 2 + 1, none⟩) hB).trans (hc i hi).2⟩⟩
theorem Prs.keep {w w' : World} {A : Option Addr} {S : List (Int × Int)} (h : Prs w w.heap.size A S) (hs : w.heap.size ≤ w'.heap.size) (hk : ∀ a, A = some a → a.block < w.heap.size → w'.heap[a.block]? = w.heap[a.block]?) : Prs w' w'.heap.size A S := fun h0 => by
  obtain ⟨b, off, rfl, hB, hc⟩ := h h0
  have hh := hk _ rfl hB
  have hcc : ∀ i, w'.cell? ⟨b, i, none⟩ = w.cell? ⟨b, i, none⟩ := fun i => World.cell?_of_block hh
  exact ⟨b, off, rfl, Nat.lt_of_lt_of_le hB hs, fun i hi => ⟨(hcc _).trans (hc i hi).1, (hcc _).trans (hc i hi).2⟩⟩
theorem prs_new {w : World} {cs : Array Value} {T : TypeId} {S : List (Int × Int)} (h : ∀ i, i < S.length → cs[i * 2]? = some (.int .i64 (prAt S i).1) ∧ cs[i * 2 + 1]? = some (.int .i64 (prAt S i).2)) :
    Prs (w.alloc (.cells cs T)) (w.alloc (.cells cs T)).heap.size (some ⟨w.heap.size, 0, none⟩) S := fun _ =>
  ⟨w.heap.size, 0, rfl, by rw [heap_size]; omega, fun i hi => by
    have h1 := (Blk.new (w := w) (t := T) (cs := cs)).cell (i * 2)
    have h2 := (Blk.new (w := w) (t := T) (cs := cs)).cell (i * 2 + 1)
    rw [Nat.zero_add]
    exact ⟨h1.trans (h i hi).1, h2.trans (h i hi).2⟩⟩
theorem shapes_any (q : Nat) (hq : q < 6) (w : World) : Calls Try.prog 31 #[.int .i64 q] w fun e w' => Below w.heap.size w w' ∧ ∃ (A : Option Addr) (c : Nat),
    e = .returned (.slice A (shapeL q).length c) ∧ Prs w' w'.heap.size A (shapeL q) ∧ (∀ a, A = some a → w.heap.size ≤ a.block) := by
  have hc : q = 0 ∨ q = 1 ∨ q = 2 ∨ q = 3 ∨ q = 4 ∨ q = 5 := by omega
  rcases hc with rfl | rfl | rfl | rfl | rfl | rfl
  all_goals
    go_enter Try.func31, Try.ntmps31
    go_wp2
    go_ret
    refine ⟨lat_alloc (Below.refl _ _) _, _, _, rfl, prs_new (fun i hi => ?_), fun a ha => by injection ha with ha; subst ha; exact Nat.le_refl _⟩
    simp only [shapeL, List.length_cons, List.length_nil] at hi
    rcases i with _ | _ | _ | _ | _ | _ | _ | _ | i <;> first | exact ⟨rfl, rfl⟩ | omega
theorem shapeL_len (q : Nat) : 1 ≤ (shapeL q).length ∧ (shapeL q).length ≤ 8 := by
  rcases q with _ | _ | _ | _ | _ | q <;> simp [shapeL]
/-- A phase. -/
structure Ph where
  (ri gr mn mx yl rd wk cl : Int)
def Ph.cells (p : Ph) : List Value := [.int .i64 p.ri, .int .i64 p.gr, .int .i64 p.mn, .int .i64 p.mx, .int .i64 p.yl, .int .i64 p.rd, .int .i64 p.wk, .int .i64 p.cl]
def phAt (P : List Ph) (i : Nat) : Ph := P.getD i ⟨0, 0, 0, 0, 0, 0, 0, 0⟩
theorem phAt_get {P : List Ph} {i : Nat} (h : i < P.length) : P[i]? = some (phAt P i) := by simp [phAt, h]
theorem phAt_mem {P : List Ph} {i : Nat} (h : i < P.length) : phAt P i ∈ P := by
  have : phAt P i = P[i] := by simp [phAt, h]
  rw [this]; exact List.getElem_mem h
structure PhOk (p : Ph) : Prop where
  mn : 1 ≤ p.mn ∧ p.mn ≤ 3
  yl : 1 ≤ p.yl ∧ p.yl ≤ 2
  rd : 0 ≤ p.rd ∧ p.rd ≤ 2
  wk : (p.wk = 0 ∧ p.cl = 0) ∨ (1 ≤ p.wk ∧ p.wk ≤ 2 ∧ 1 ≤ p.cl ∧ p.cl ≤ 2)
  mx : p.mn ≤ p.mx ∧ p.wk + p.cl ≤ p.mx ∧ p.mx ≤ 7
/-- The phase p lies at offset o of block b. -/
def PhHere (w : World) (b o : Nat) (p : Ph) : Prop :=
  w.cell? ⟨b, o, none⟩ = some (.int .i64 p.ri) ∧ w.cell? ⟨b, o + 1, none⟩ = some (.int .i64 p.gr) ∧ w.cell? ⟨b, o + 2, none⟩ = some (.int .i64 p.mn) ∧ w.cell? ⟨b, o + 3, none⟩ = some (.int .i64 p.mx) ∧
  w.cell? ⟨b, o + 4, none⟩ = some (.int .i64 p.yl) ∧ w.cell? ⟨b, o + 5, none⟩ = some (.int .i64 p.rd) ∧ w.cell? ⟨b, o + 6, none⟩ = some (.int .i64 p.wk) ∧ w.cell? ⟨b, o + 7, none⟩ = some (.int .i64 p.cl)
theorem PhHere.block {w w' : World} {b o : Nat} {p : Ph} (h : PhHere w b o p) (hh : w'.heap[b]? = w.heap[b]?) : PhHere w' b o p := by
  have hk : ∀ i, w'.cell? ⟨b, i, none⟩ = w.cell? ⟨b, i, none⟩ := fun i => World.cell?_of_block hh
  obtain ⟨h0, h1, h2, h3, h4, h5, h6, h7⟩ := h
  exact ⟨(hk _).trans h0, (hk _).trans h1, (hk _).trans h2, (hk _).trans h3, (hk _).trans h4, (hk _).trans h5, (hk _).trans h6, (hk _).trans h7⟩
/-- A slice of phases, below block B. -/
def Phs (w : World) (B : Nat) (A : Option Addr) (P : List Ph) : Prop :=
  0 < P.length → ∃ b off, A = some ⟨b, off, none⟩ ∧ b < B ∧ ∀ i, i < P.length → PhHere w b (off + i * 8) (phAt P i)
theorem Phs.at {w : World} {B : Nat} {A : Option Addr} {P : List Ph} (h : Phs w B A P) {i : Nat} (hi : i < P.length) : ∃ b off, A = some ⟨b, off, none⟩ ∧ b < B ∧ PhHere w b (off + i * 8) (phAt P i) := by
  obtain ⟨b, off, hA, hB, hc⟩ := h (by omega)
  exact ⟨b, off, hA, hB, hc i hi⟩
theorem Phs.keep {w w' : World} {A : Option Addr} {P : List Ph} (h : Phs w w.heap.size A P) (hs : w.heap.size ≤ w'.heap.size) (hk : ∀ a, A = some a → a.block < w.heap.size → w'.heap[a.block]? = w.heap[a.block]?) : Phs w' w'.heap.size A P := fun h0 => by
  obtain ⟨b, off, rfl, hB, hc⟩ := h h0
  exact ⟨b, off, rfl, Nat.lt_of_lt_of_le hB hs, fun i hi => (hc i hi).block (hk _ rfl hB)⟩
theorem Phs.grow {w w' : World} {A : Option Addr} {P : List Ph} (h : Phs w w.heap.size A P) (hb : Below w.heap.size w w') : Phs w' w'.heap.size A P := h.keep hb.size fun a _ hB => hb.block _ hB
theorem row_phs {w : World} {base : Nat} {v : Value} {P : List Ph} (h : w.ownsRow base 51 8 v P.length (P.flatMap Ph.cells)) : ∃ A c, v = .slice A P.length c ∧ Phs w w.heap.size A P ∧ (∀ a, A = some a → base ≤ a.block) ∧ P.length ≤ c := by
  obtain ⟨A, c, hv, hcl, hb, hc⟩ := row_get (f := Ph.cells) (m := 8) (fun _ => rfl) h
  refine ⟨A, c, hv, fun h0 => ?_, hb, hcl⟩
  obtain ⟨b, hA, hB, hcell⟩ := hc h0
  refine ⟨b, 0, hA, hB, fun i hi => ?_⟩
  have hx := fun j hj => hcell i _ (phAt_get hi) j hj
  rw [Nat.zero_add]
  exact ⟨hx 0 (by omega), hx 1 (by omega), hx 2 (by omega), hx 3 (by omega), hx 4 (by omega), hx 5 (by omega), hx 6 (by omega), hx 7 (by omega)⟩
theorem Blk.set8 {w : World} {g : Nat} {t : TypeId} {a b c d e f x y : Value} (h : Blk w g t #[a, b, c, d, e, f, x, y]) (a' b' c' d' e' f' x' y' : Value) :
    Blk ((((((((w.setCell ⟨g, 0, none⟩ a').setCell ⟨g, 1, none⟩ b').setCell ⟨g, 2, none⟩ c').setCell ⟨g, 3, none⟩ d').setCell ⟨g, 4, none⟩ e').setCell ⟨g, 5, none⟩ f').setCell ⟨g, 6, none⟩ x').setCell ⟨g, 7, none⟩ y') g t #[a', b', c', d', e', f', x', y'] := by
  have h0 : Blk (w.setCell ⟨g, 0, none⟩ a') g t #[a', b, c, d, e, f, x, y] := h.set_ 0 a'
  generalize w.setCell ⟨g, 0, none⟩ a' = w0 at *
  have h1 : Blk (w0.setCell ⟨g, 1, none⟩ b') g t #[a', b', c, d, e, f, x, y] := h0.set_ 1 b'
  generalize w0.setCell ⟨g, 1, none⟩ b' = w1 at *
  have h2 : Blk (w1.setCell ⟨g, 2, none⟩ c') g t #[a', b', c', d, e, f, x, y] := h1.set_ 2 c'
  generalize w1.setCell ⟨g, 2, none⟩ c' = w2 at *
  have h3 : Blk (w2.setCell ⟨g, 3, none⟩ d') g t #[a', b', c', d', e, f, x, y] := h2.set_ 3 d'
  generalize w2.setCell ⟨g, 3, none⟩ d' = w3 at *
  have h4 : Blk (w3.setCell ⟨g, 4, none⟩ e') g t #[a', b', c', d', e', f, x, y] := h3.set_ 4 e'
  generalize w3.setCell ⟨g, 4, none⟩ e' = w4 at *
  have h5 : Blk (w4.setCell ⟨g, 5, none⟩ f') g t #[a', b', c', d', e', f', x, y] := h4.set_ 5 f'
  generalize w4.setCell ⟨g, 5, none⟩ f' = w5 at *
  have h6 : Blk (w5.setCell ⟨g, 6, none⟩ x') g t #[a', b', c', d', e', f', x', y] := h5.set_ 6 x'
  generalize w5.setCell ⟨g, 6, none⟩ x' = w6 at *
  have h7 : Blk (w6.setCell ⟨g, 7, none⟩ y') g t #[a', b', c', d', e', f', x', y'] := h6.set_ 7 y'
  exact h7
theorem grown2 {w w' : World} {g : Nat} (h : w.grownBy w' (some g)) (i j : Nat) (a b : Value) : w.grownBy ((w'.setCell ⟨g, i, none⟩ a).setCell ⟨g, j, none⟩ b) (some g) :=
  grownBy_setAt (grownBy_setAt h g i a rfl) g j b rfl
theorem grown8 (w : World) (g : Nat) (a b c d e f x y : Value) :
    w.grownBy ((((((((w.setCell ⟨g, 0, none⟩ a).setCell ⟨g, 1, none⟩ b).setCell ⟨g, 2, none⟩ c).setCell ⟨g, 3, none⟩ d).setCell ⟨g, 4, none⟩ e).setCell ⟨g, 5, none⟩ f).setCell ⟨g, 6, none⟩ x).setCell ⟨g, 7, none⟩ y) (some g) := by
  have h1 := grown2 (World.grownBy.refl w (some g)) 0 1 a b
  generalize (w.setCell ⟨g, 0, none⟩ a).setCell ⟨g, 1, none⟩ b = w1 at *
  have h2 := grown2 h1 2 3 c d
  generalize (w1.setCell ⟨g, 2, none⟩ c).setCell ⟨g, 3, none⟩ d = w2 at *
  have h3 := grown2 h2 4 5 e f
  generalize (w2.setCell ⟨g, 4, none⟩ e).setCell ⟨g, 5, none⟩ f = w3 at *
  exact grown2 h3 6 7 x y
/-- Is there a conflict of the phases i and k? -/
def confB (P : List Ph) (ex : Bool) (i k : Nat) : Bool :=
  !decide (i = k) && (decide ((phAt P i).ri = (phAt P k).ri) || (!decide ((phAt P i).gr = (phAt P k).gr) || (ex && decide ((i + k) % 2 = 1))))
/-- The first k bits of the row of conflicts of the phase i. -/
def rowV (P : List Ph) (ex : Bool) (i : Nat) : Nat → Nat
  | 0 => 0
  | k + 1 => rowV P ex i k + if confB P ex i k then 2 ^ k else 0
theorem rowV_lt (P : List Ph) (ex : Bool) (i : Nat) : ∀ k, rowV P ex i k < 2 ^ k
  | 0 => by simp [rowV]
  | k + 1 => by
    have := rowV_lt P ex i k
    rw [rowV, Nat.pow_succ]
    split <;> omega
def rowsL (P : List Ph) (ex : Bool) : List Int := (List.range P.length).map fun i => (rowV P ex i P.length : Int)
end Go.Proofs.Ytkpbkahmbbkcdaa

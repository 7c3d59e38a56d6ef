/-
  The string that a slice of bytes is converted to.
-/
import Derived.Test.YtmgifmdpjlefcaaK
namespace Go.Proofs.Ytmgifmdpjlefcaa
open Go.ChangeShapes Go.WideShapes Go.ChangeAt Go.RowKit

/-- The string of a list of bytes. -/
def strOf (l : List Int) : ByteArray := ⟨(l.map fun n => UInt8.ofNat n.toNat).toArray⟩
theorem strOf_inj {a b : List Int} (ha : Byte a) (hb : Byte b) (h : strOf a = strOf b) : a = b := by
  have h1 : (a.map fun n => UInt8.ofNat n.toNat).toArray = (b.map fun n => UInt8.ofNat n.toNat).toArray := congrArg ByteArray.data h
  have h2 : (a.map fun n => UInt8.ofNat n.toNat) = (b.map fun n => UInt8.ofNat n.toNat) := by simpa using h1
  clear h h1
  induction a generalizing b with
  | nil => cases b with
    | nil => rfl
    | cons y b => simp at h2
  | cons x a ih => cases b with
    | nil => simp at h2
    | cons y b =>
      simp only [List.map_cons, List.cons.injEq] at h2
      have hx := ha x (by simp)
      have hy := hb y (by simp)
      have e : x = y := by
        have := congrArg UInt8.toNat h2.1
        simp only [UInt8.toNat_ofNat'] at this
        omega
      rw [e, ih (fun n hn => ha n (by simp [hn])) (fun n hn => hb n (by simp [hn])) h2.2]
theorem run_str {P : Program} (w : World) (src dst e : TypeId) (A : Option Addr) (cap B : Nat) (l : List Int) (hs : P.underlying src = some (.slice e)) (he : P.underlying e = some (.int .u8)) (hd : P.underlying dst = some .string)
    (hi : Ints .u8 w B A l) (hb : Byte l) : (convert src dst (.slice A l.length cap)).run P w = .ok (.string (strOf l)) w := by
  have hlen : (l.map fun n => UInt8.ofNat n.toNat).length = l.length := by simp
  rcases Nat.eq_zero_or_pos l.length with h0 | h0
  · have : l = [] := List.eq_nil_of_length_eq_zero h0
    subst this
    rcases A with _ | a
    · rw [List.length_nil, run_convert_bytes_string w src dst e none 0 cap hs he hd]; rfl
    · exact run_convert_bytes_back w src dst e a cap [] hs he hd (fun j hj => by simp at hj)
  · obtain ⟨b, off, rfl, _, hc⟩ := hi h0
    have h := run_convert_bytes_back w src dst e ⟨b, off, none⟩ cap (l.map fun n => UInt8.ofNat n.toNat) hs he hd (fun j hj => by
      rw [hlen] at hj
      have e1 : (Addr.add ⟨b, off, none⟩ j) = ⟨b, off + j, none⟩ := by unfold Addr.add; split <;> simp_all
      have hr := hb _ (at_mem hj)
      have e2 : at_ l j = l[j] := by simp [at_, hj]
      rw [e1, hc j hj, e2]
      rw [e2] at hr
      simp only [List.getElem_map, UInt8.toNat_ofNat']
      congr 2
      omega)
    rw [hlen] at h
    exact h
end Go.Proofs.Ytmgifmdpjlefcaa

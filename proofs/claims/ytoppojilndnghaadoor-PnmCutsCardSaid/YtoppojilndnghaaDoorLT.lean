/- Texts as lists of bytes. No number of the program stands in it. -/
import Derived.Test.YtoppojilndnghaaDoorLB
import Derived.Laws.BytesArg
import Derived.Laws.IdiomStrings
namespace Go.Proofs.YtoppojilndnghaaDoor
open Go.RowKit


/-- A text's bytes, as numbers. -/
def byt (s : ByteArray) : List Int := s.data.toList.map fun b => (b.toNat : Int)
theorem byt_len (s : ByteArray) : (byt s).length = s.size := by unfold byt; rw [List.length_map, Array.length_toList]; rfl
theorem byt_in (s : ByteArray) : ∀ x ∈ byt s, 0 ≤ x ∧ x ≤ 255 := by
  intro x hx
  obtain ⟨b, _, rfl⟩ := List.mem_map.1 hx
  have := b.toNat_lt
  omega
theorem byt_at {s : ByteArray} {k : Nat} (h : k < s.size) : ((s[k]'h).toNat : Int) = (byt s).getD k 0 := by
  unfold byt
  have h' : k < s.data.toList.length := by rw [Array.length_toList]; exact h
  rw [List.getD_eq_getElem?_getD, List.getElem?_map, List.getElem?_eq_getElem h']
  rfl
theorem byt_cut (s : ByteArray) (k : Nat) : byt (s.extract k s.size) = (byt s).drop k := by
  unfold byt
  rw [← List.map_drop]
  congr 1
  rw [ByteArray.data_extract, Array.toList_extract, List.extract_eq_take_drop]
  exact List.take_of_length_le (by rw [List.length_drop, Array.length_toList]; exact Nat.le_refl _)
theorem byt_add (a b : ByteArray) : byt (a ++ b) = byt a ++ byt b := by unfold byt; simp [ByteArray.data_append]
theorem byt_inj {a b : ByteArray} (h : byt a = byt b) : a = b := by
  unfold byt at h
  apply ByteArray.ext
  apply Array.toList_inj.1
  exact List.map_inj_right (by intro x y e; exact UInt8.toNat_inj.1 (by omega)) |>.1 h
theorem byt_nums {xs : List Int} (h : ∀ x ∈ xs, 0 ≤ x ∧ x ≤ 255) : byt (strOfNums xs) = xs := by
  unfold byt
  rw [strOfNums_data, List.map_map]
  refine (List.map_congr_left fun x hx => ?_).trans (List.map_id _)
  have := h x hx
  simp [UInt8.toNat_ofNat']
  omega
theorem byt_empty {s : ByteArray} : s.toList.isEmpty = (byt s).isEmpty := by
  unfold byt
  rw [ByteArray.toList_eq]
  simp
/-- The first byte, and what is behind it. -/
theorem byt_cons {s : ByteArray} {x : Int} {u : List Int} (h : byt s = x :: u) : ∃ h0 : 0 < s.size, ((s[0]'h0).toNat : Int) = x ∧ ∃ v, s.extract 1 s.size = v ∧ byt v = u ∧ v.size < s.size := by
  have hl := byt_len s
  rw [h, List.length_cons] at hl
  have h0 : 0 < s.size := by omega
  refine ⟨h0, ?_, s.extract 1 s.size, rfl, ?_, ?_⟩
  · rw [byt_at h0, h]; rfl
  · rw [byt_cut, h]; rfl
  · have g := byt_len (s.extract 1 s.size)
    rw [byt_cut, h, List.drop_succ_cons, List.drop_zero] at g
    omega
def lenOfV : Value → Nat | .string s => s.size | _ => 0
end Go.Proofs.YtoppojilndnghaaDoor

/- Heads: what the program's calls are asked to answer; the example; blanks. -/
import Derived.Test.YtoppojilndnghaaDoorS10E
namespace Go.Proofs.YtoppojilndnghaaDoor
open Go.RowKit


def HParseC (K : World → Prop) : Prop := ∀ (xs : List Int) (n : Nat) (ad : Option Addr) (cap : Nat) (w : World), K w → xs.length = n → n ≤ 1048576 → (∀ x ∈ xs, 0 ≤ x ∧ x ≤ 255) → RowAt .u8 w ad xs → (ad = none → cap = 0) →
  Calls Tryd.prog 25 #[.slice ad n cap] w fun e w' => e = .returned (.tuple #[hdV (parseF xs).1, .int .i64 (parseF xs).2]) ∧ Below w.heap.size w w'
def HTextC (K : World → Prop) : Prop := ∀ (h : Hd), HdIn h → ∀ w, K w → Calls Tryd.prog 32 #[hdV h] w fun e w' => ∃ t, e = .returned (.string t) ∧ byt t = textF h ∧ Below w.heap.size w w'
def KB (K : World → Prop) : Prop := ∀ w w', K w → Below w.heap.size w w' → K w'
def exB : List Int := [80, 53, 32, 50, 32, 51, 10, 50, 53, 53, 32]
theorem ex_head : parseF exB = (⟨1, 2, 3, 255, 11⟩, 0) := by
  have h : ((parseF exB).1.hc, (parseF exB).1.hw, (parseF exB).1.hh, (parseF exB).1.ht, (parseF exB).1.hs, (parseF exB).2) = ((1 : Int), (2 : Int), (3 : Int), (255 : Int), (11 : Int), (0 : Int)) := by decide +kernel
  generalize parseF exB = r at h
  obtain ⟨⟨a, b, c, d, e⟩, f⟩ := r
  simp only [Prod.mk.injEq] at h
  obtain ⟨rfl, rfl, rfl, rfl, rfl, rfl⟩ := h
  rfl
/-- A new block's cells, whatever mark it bears. -/
theorem cell_mark (w : World) (C : Array Value) (t : TypeId) (f : Nat × Nat) (j : Nat) : (w.alloc (.cells C t f)).cell? ⟨w.heap.size, j, none⟩ = C[j]? := by
  have : (w.alloc (.cells C t f)).heap[w.heap.size]? = some (.cells C t f) := by
    show (w.heap.push (.cells C t f))[w.heap.size]? = _
    simp
  unfold World.cell?
  rw [this]
  rfl
theorem lit11 (w : World) (t : TypeId) : RowAt .u8 (w.alloc (.cells #[.int .u8 80, .int .u8 53, .int .u8 32, .int .u8 50, .int .u8 32, .int .u8 51, .int .u8 10, .int .u8 50, .int .u8 53, .int .u8 53, .int .u8 32] t (11, 12))) (some ⟨w.heap.size, 0, none⟩) exB := by
  refine Or.inr ⟨w.heap.size, 0, rfl, fun j hj => ?_⟩
  rw [cell_mark, Nat.zero_add]
  match j, hj with
  | 0, _ => rfl
  | 1, _ => rfl
  | 2, _ => rfl
  | 3, _ => rfl
  | 4, _ => rfl
  | 5, _ => rfl
  | 6, _ => rfl
  | 7, _ => rfl
  | 8, _ => rfl
  | 9, _ => rfl
  | 10, _ => rfl
/-- '[]byte(..)' of a text that is written out. -/
theorem mark_new (w : World) (C : Array Value) (n cap : Nat) : (convert 22 22 (.slice (some ⟨w.heap.size, 0, none⟩) n cap)).run Tryd.prog (w.alloc (.cells C 5)) = .ok (.slice (some ⟨w.heap.size, 0, none⟩) n cap) (w.alloc (.cells C 5 (C.size, C.size + 1))) := by
  have hsh : (w.alloc (.cells C 5)).shape? w.heap.size = some (5, C.size) := by
    have : (w.alloc (.cells C 5)).heap[w.heap.size]? = some (.cells C 5) := by
      show (w.heap.push (.cells C 5))[w.heap.size]? = _
      simp
    unfold World.shape?
    rw [this]
  have hfr : (w.alloc (.cells C 5)).freeze ⟨w.heap.size, C.size, none⟩ 1 = w.alloc (.cells C 5 (C.size, C.size + 1)) := by
    have hm : ∀ (a : Array Obj) (x : Obj) (f : Obj → Obj), (a.push x).modify a.size f = a.push (f x) := by
      intro a x f
      apply Array.ext
      · simp
      · intro i h1 h2
        simp only [Array.getElem_modify, Array.getElem_push]
        by_cases h : a.size = i
        · subst h
          simp
        · have hi : i < a.size := by simp at h1; omega
          simp [h, hi]
    unfold World.freeze
    rw [if_neg (by decide)]
    show ({ w.alloc (.cells C 5) with heap := (w.heap.push (.cells C 5)).modify w.heap.size _ } : World) = _
    rw [hm]
    rfl
  simp [convert, run_underlying Tryd.underlying22, markStringish, hsh]
  exact hfr
theorem hlives {K : World → Prop} (hKB : KB K) (CP : HParseC K) (w : World) (hk : K w) : Calls Tryd.prog 24 #[] w fun e w' => e = .returned (.bool true) ∧ Below w.heap.size w w' := by
  have hKB : ∀ w w', K w → Below w.heap.size w w' → K w' := hKB
  have q0 := fun (w : World) => mark_new w #[.int .u8 80, .int .u8 53, .int .u8 32, .int .u8 50, .int .u8 32, .int .u8 51, .int .u8 10, .int .u8 50, .int .u8 53, .int .u8 53, .int .u8 32] 11 11
  have C1 := fun (w : World) hk => CP exB 11 (some ⟨w.heap.size, 0, none⟩) 11 (w.alloc (.cells #[.int .u8 80, .int .u8 53, .int .u8 32, .int .u8 50, .int .u8 32, .int .u8 51, .int .u8 10, .int .u8 50, .int .u8 53, .int .u8 53, .int .u8 32] 5 (11, 12))) hk rfl (by omega) (by decide) (lit11 w 5) (fun e => by cases e)
  rw [ex_head] at C1
  unfold hdV at C1
  clear CP
  go_enter Tryd.func24, Tryd.ntmps24
  go_wp2_with (go_at_call 25; (with_reducible refine (C1 _ (hKB _ _ hk (below1 _ _))).mono ?_); rintro e w1 ⟨rfl, b1⟩)
  go_ret
  exact ⟨rfl, ba (bt (below1 _ _) b1) _⟩
end Go.Proofs.YtoppojilndnghaaDoor

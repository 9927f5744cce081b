/- Parts, joined. -/
import Derived.Test.YtlknopmpbkepjaaDoorJ12
/- Operations as texts: the statements' own helpers; rows of operations, appended; the laws on signs and on rows that are joined. -/
namespace Go.Proofs.YtlknopmpbkepjaaDoor
open Go.RowKit


/-! ### Lives -/
theorem row_new (w : World) (T : TypeId) (x : Int) (xs : List Int) (n : Nat) (_ : (x :: xs).length = n) : RowAt .i64 (w.alloc (.cells ((x :: xs).map (Value.int .i64)).toArray T)) (some ⟨w.heap.size, 0, none⟩) (x :: xs) := by
  refine .inr ⟨w.heap.size, 0, rfl, fun j hj => ?_⟩
  have h := new_list w ((x :: xs).map (Value.int .i64)) T j (.int .i64 ((x :: xs).getD j 0)) (by
    rw [List.getElem?_map, List.getD_eq_getElem?_getD, List.getElem?_eq_getElem hj]
    rfl)
  rw [addr_add] at h
  exact h
def livO : Opr := ⟨2, 2, 0, 0, [1, 2, 1], [1], 0, 0, 0⟩
theorem liv_word : wordT livO = ⟨#[226, 138, 151, 49, 44, 50, 44, 49, 195, 151, 49, 124, 119, 114, 97, 112]⟩ ∧ wordC livO = 0 := by decide +kernel
theorem liv_fit : FitW livO := ⟨fun x hx => by
    simp only [livO, List.mem_cons, List.not_mem_nil, or_false] at hx
    omega, fun x hx => by
    simp only [livO, List.mem_cons, List.not_mem_nil, or_false] at hx
    omega, fun x hx => by
    simp only [livO, List.mem_cons, List.not_mem_nil, or_false] at hx
    omega⟩
set_option maxRecDepth 100000 in
theorem lives13_any (w : World) (hk : KW w) :
    Calls Tryd.prog 7 #[] w fun e w' => e = .returned (.bool true) ∧ Below w.heap.size w w' := by
  have CW : ∀ ax cx ay cy w', Below w.heap.size w w' → OpAt w' livO ax cx ay cy → Calls Tryd.prog 11 #[.agg #[.int .i64 2, .int .i64 2, .int .i64 0, .int .i64 0, .slice ax 3 cx, .slice ay 1 cy, .int .i64 0, .int .i64 0, .int .i64 0]] w' fun e w2 => e = .returned (.tuple #[.string ⟨#[226, 138, 151, 49, 44, 50, 44, 49, 195, 151, 49, 124, 119, 114, 97, 112]⟩, .int .i64 0]) ∧ Below w'.heap.size w' w2 := fun ax cx ay cy w' hb hA => by
    have h := word_any livO ax cx ay cy w' liv_fit hA (by decide) (by decide) (kw_below hk hb).1 (kw_below hk hb).2.1 (kw_below hk hb).2.2
    rw [liv_word.1, liv_word.2] at h
    exact h
  have HA := hide (show OpAt ((w.alloc (.cells #[.int .i64 1, .int .i64 2, .int .i64 1] 2)).alloc (.cells #[.int .i64 1] 2)) livO (some ⟨w.heap.size, 0, none⟩) 3 (some ⟨w.heap.size + 1, 0, none⟩) 1 by
    have h2 := row_new (w.alloc (.cells #[.int .i64 1, .int .i64 2, .int .i64 1] 2)) 2 1 [] 1 rfl
    rw [World.size_alloc] at h2
    exact ⟨(row_new w 2 1 [2, 1] 3 rfl).below (below1 _ _), h2, (fun e => by cases e), (fun e => by cases e)⟩)
  clear hk
  go_enter Tryd.func7, Tryd.ntmps7
  go_wp2_with (go_at_call 11; go_loud (with_reducible refine (CW _ _ _ _ _ (ba (below1 _ _) _) HA.out).mono ?_); rintro e w3 ⟨rfl, b3⟩)
  go_ret
  exact ⟨rfl, bt (ba (below1 _ _) _) b3⟩
theorem signs_main (k : Int) (w : World) (hk : KW w) :
    Calls Tryd.prog 5 #[.int .i64 k] w fun e w' => e = .returned (.bool true) ∧ Below w.heap.size w w' := by
  have CL := fun w (h : KW w) => lives13_any w h
  have CD := fun w => dsign13_any k w
  have CS := fun w => sign_any k w
  have HK := hide hk
  clear hk
  by_cases h : 0 ≤ k ∧ k ≤ 3
  · have hcv := sgn_conv h
    have he := isEmpty_no (byts_sgn k) (sgn_ne h)
    clear h
    generalize txt (sgnB k) = S at *
    generalize runeB k = R at *
    go_enter Tryd.func5, Tryd.ntmps5
    go_wp2_with (first
      | (go_at_call 7; (with_reducible refine (CL _ HK.out).mono ?_); rintro e w1 ⟨rfl, b1⟩)
      | (go_at_call 18; (with_reducible refine (CD _).mono ?_); rintro e w2 ⟨rfl, rfl⟩)
      | (go_at_call 19; (with_reducible refine (CS _).mono ?_); rintro e w3 ⟨rfl, b3⟩))
    go_ret
    exact ⟨by first | rfl | simp, bt b1 b3⟩
  · rw [sgn_nil (by omega), txt_nil] at CD
    rw [rune_at.2 (by omega)] at CS
    clear h
    go_enter Tryd.func5, Tryd.ntmps5
    go_wp2_with (first
      | (go_at_call 7; (with_reducible refine (CL _ HK.out).mono ?_); rintro e w1 ⟨rfl, b1⟩)
      | (go_at_call 18; (with_reducible refine (CD _).mono ?_); rintro e w2 ⟨rfl, rfl⟩)
      | (go_at_call 19; (with_reducible refine (CS _).mono ?_); rintro e w3 ⟨rfl, b3⟩))
    go_ret
    exact ⟨by first | rfl | simp, bt b1 b3⟩
/-! ### Few and little ones -/
def fewB (L : List Opr) (n : Nat) : Bool := (L.all fun o => decide (o.xs.length ≤ 60) && decide (o.ys.length ≤ 60)) && decide (n ≤ 20)
theorem few_no {L : List Opr} {n k : Nat} (hk : k < L.length) (h : 60 < (opAt L k).xs.length ∨ 60 < (opAt L k).ys.length) : fewB L n = false := by
  have : (L.all fun o => decide (o.xs.length ≤ 60) && decide (o.ys.length ≤ 60)) = false := by
    cases e : (L.all fun o => decide (o.xs.length ≤ 60) && decide (o.ys.length ≤ 60)) with
    | false => rfl
    | true =>
      have := List.all_eq_true.1 e _ (opAt_mem hk)
      simp only [Bool.and_eq_true, decide_eq_true_eq] at this
      omega
  unfold fewB
  rw [this]
  rfl
theorem few_yes {L : List Opr} {n : Nat} (h : ∀ j, j < L.length → (opAt L j).xs.length ≤ 60 ∧ (opAt L j).ys.length ≤ 60) : fewB L n = decide (n ≤ 20) := by
  have : (L.all fun o => decide (o.xs.length ≤ 60) && decide (o.ys.length ≤ 60)) = true := by
    rw [List.all_eq_true]
    intro o ho
    obtain ⟨j, hj, rfl⟩ := List.getElem_of_mem ho
    have := h j hj
    unfold opAt at this
    rw [List.getD_eq_getElem?_getD, List.getElem?_eq_getElem hj] at this
    simp only [Option.getD_some] at this
    simp [this.1, this.2]
  unfold fewB
  rw [this]
  rfl
theorem few_iff {L : List Opr} {n : Nat} (h : fewB L n = true) : n ≤ 20 ∧ ∀ o ∈ L, o.xs.length ≤ 60 ∧ o.ys.length ≤ 60 := by
  unfold fewB at h
  rw [Bool.and_eq_true] at h
  refine ⟨of_decide_eq_true h.2, fun o ho => ?_⟩
  have := List.all_eq_true.1 h.1 o ho
  simpa using this
set_option maxHeartbeats 2000000 in
theorem few_any (L : List Opr) (n : Nat) (hn : L.length = n) (h1 : n ≤ maxLen) (ad : Option Addr) (cap : Nat) (w : World) (hr : OpsAt w ad L) :
    Calls Tryd.prog 8 #[.slice ad n cap] w fun e w' => e = .returned (.bool (fewB L n)) ∧ Below w.heap.size w w' := by
  have hm : n ≤ 9223372036854775807 := h1
  have HR := hide hr
  have HN := hide hn
  have HNO := hide (fun (k : Nat) (hk : k < n) h => few_no (L := L) (n := n) (k := k) (by rw [hn]; exact hk) h)
  have HYES := hide (fun (h : ∀ j, j < n → (opAt L j).xs.length ≤ 60 ∧ (opAt L j).ys.length ≤ 60) => few_yes (L := L) (n := n) (by rw [hn]; exact h))
  obtain ⟨FB, hFB⟩ : ∃ FB, fewB L n = FB := ⟨_, rfl⟩
  rw [hFB] at HNO HYES
  rw [hFB]
  clear hr hn h1 hFB
  go_enter Tryd.func8, Tryd.ntmps8
  go_wp2
  go_loopw [7] (fun i wr => ∃ k : Nat, k ≤ n ∧ i = .int .i64 (k : Int) ∧ Hid (∀ j, j < k → (opAt L j).xs.length ≤ 60 ∧ (opAt L j).ys.length ≤ 60) ∧ Below w.heap.size w wr) (fun i _ => n - (intOf i).toNat)
  case atStart => exact ⟨0, by omega, rfl, hide (fun j hj => absurd hj (Nat.not_lt_zero _)), Below.refl _ _⟩
  case round =>
    obtain ⟨k, hk, rfl, hs, hb⟩ := hrel
    have HB := hide hb
    have hb0 := (HR.out.below hb)
    clear hb
    by_cases hlt : k < n
    · obtain ⟨b, off, rfl, h0, h1, h2, h3, h6, h7, h8, ax, cx, ay, cy, h4, h5, _⟩ := hb0.get (show k < L.length by rw [HN.out]; exact hlt)
      clear hb0
      have HF := hide (HNO.out k hlt)
      have HP := hide (fun (q : (opAt L k).xs.length ≤ 60 ∧ (opAt L k).ys.length ≤ 60) => show ∀ j, j < k + 1 → (opAt L j).xs.length ≤ 60 ∧ (opAt L j).ys.length ≤ 60 from fun j hj => by
        by_cases e : j = k
        · subst e; exact q
        · exact hs.out j (by omega))
      obtain ⟨o, ho⟩ : ∃ o, opAt L k = o := ⟨_, rfl⟩
      rw [ho] at h0 h1 h2 h3 h6 h7 h8 h4 h5 HF HP
      clear ho HNO HYES hs
      obtain ⟨kd, bo, sg, rd, xs, ys, fl, wd, ht⟩ := o
      simp only at h0 h1 h2 h3 h6 h7 h8 h4 h5 HF HP
      generalize xs.length = nx at *
      generalize ys.length = ny at *
      have HB9 := hide (fun o => ba HB.out o)
      rcases (show 60 < nx ∨ nx ≤ 60 by omega) with cF | c1
      · have v := HF.out (.inl cF)
        clear HF HP
        subst v
        have c1 : (60 : Int) < (nx : Int) := by omega
        go_wp2
        go_ret
        exact ⟨rfl, HB9.out _⟩
      rcases (show 60 < ny ∨ ny ≤ 60 by omega) with cF | c2
      · have v := HF.out (.inr cF)
        clear HF HP
        subst v
        have c2 : (60 : Int) < (ny : Int) := by omega
        have c3 : ¬ ((60 : Int) < (nx : Int)) := by omega
        go_wp2
        go_ret
        exact ⟨rfl, HB9.out _⟩
      · have v := hide (HP.out ⟨c1, c2⟩)
        clear HF HP
        have c3 : ¬ ((60 : Int) < (nx : Int)) := by omega
        have c4 : ¬ ((60 : Int) < (ny : Int)) := by omega
        go_wp2
        go_roundw
        case rel => exact ⟨k + 1, by omega, by go_num, v, HB9.out _⟩
        case measure => simp [intOf]; omega
    · obtain rfl : k = n := by omega
      have v := HYES.out hs.out
      clear HNO HYES hs
      subst v
      go_wp2
      go_ret
      exact ⟨ret_bool (decide_eq_decide.2 (by omega)), HB.out⟩
end Go.Proofs.YtlknopmpbkepjaaDoor

/- Operations as texts: rows of operations, one behind the other; the law on rows that are joined. -/
namespace Go.Proofs.YtlknopmpbkepjaaDoor
open Go.RowKit


/-! ### 'append(v, l...)', l a slice of records -/
theorem wpList_append_recs {P : Program} (w : World) {ops : Array Oper} {rest : List Oper} {o : Oper} {a : Act} {Q : Exit → Act → World → Prop}
    (hg : o.guard = none) (s x : Operand) (t : TypeId) (hop : o.op = Op.call { callee := Callee.builtin Builtin.append, args := #[s, x], argTypes := #[t, t] })
    (base : Nat) (e : TypeId) (i : TypeInfo) (z : Value) (k bytes : Nat) (h1 : P.underlying t = some (.slice e)) (h2 : P.info? e = some i) (h3 : i.zero = some z) (h4 : i.size = k) (h5 : i.bytes = bytes) (h6 : z.cells.size = k) (h7 : 0 < k)
    (v : Value) (us : List (List Value)) (hs : a.eval s = v) (hown : OwnRec e k w base v us)
    (ad : Option Addr) (n cap : Nat) (vs : List (List Value)) (hx : a.eval x = .slice ad n cap) (hn : vs.length = n) (hv : ∀ u ∈ vs, u.length = k) (h1c : ∀ u ∈ vs, ∀ y ∈ u, y.oneCell' = true)
    (hr : ∀ j, j < n → ∃ b off, ad = some ⟨b, off, none⟩ ∧ ∀ q, q < k → w.cell? ⟨b, off + j * k + q, none⟩ = some (recAt vs j q)) (hz : ad = none → cap = 0)
    (b1 : us.length + n ≤ maxLen) (b2 : (us.length + n) * bytes ≤ 140737488355328) (b3 : base ≤ w.heap.size)
    (hK : ∀ v' w', OwnRec e k w' base v' (us ++ vs) → w.grownBy w' v.ownBlock → wpList P ops Q rest (a.put o.dst v') w') :
    wpList P ops Q (o :: rest) a w := by
  subst hn
  rcases ad with _ | ad
  · have e0 : vs = [] := by
      cases vs with
      | nil => rfl
      | cons u vs =>
        obtain ⟨b, off, h, _⟩ := hr 0 (by simp)
        cases h
    subst e0
    have hz' := hz rfl
    subst hz'
    refine wpList_append_own_none hg s x t hop base e i k h1 h2 v us.length us.flatten hs hown.1 hx ?_
    exact hK v w (by rw [List.append_nil]; exact hown) (grown_refl _ _)
  · have hlen : vs.flatten.length = vs.length * k := by
      clear hr hx b1 b2 hK h1c
      induction vs with
      | nil => simp
      | cons u vs ih =>
        have := ih (fun x hx => hv x (List.mem_cons_of_mem _ hx))
        have hu := hv u List.mem_cons_self
        rw [List.flatten_cons, List.length_append, List.length_cons, this, hu, Nat.add_mul]
        omega
    have hc : ∀ j u, vs.flatten[j]? = some u → w.cell? (ad.add j) = some u := by
      intro j u hj
      have hlt : j < vs.length * k := by
        rw [← hlen]
        by_cases g : j < vs.flatten.length
        · exact g
        · rw [List.getElem?_eq_none (by omega)] at hj; cases hj
      have hq : j % k < k := Nat.mod_lt _ h7
      have hd : j / k < vs.length := Nat.div_lt_of_lt_mul (by rw [Nat.mul_comm]; exact hlt)
      have hjd : j / k * k + j % k = j := by rw [Nat.mul_comm]; exact Nat.div_add_mod j k
      obtain ⟨b, off, e, c⟩ := hr (j / k) hd
      obtain rfl := Option.some.inj e
      have g := flat_get hv hd hq
      rw [hjd, hj] at g
      rw [addr_add, Option.some.inj g, ← c _ hq, Nat.add_assoc, hjd]
    refine wpList_append_apart w hg s x t hop base e i z k bytes h1 h2 h3 h4 h5 h6 h7 v us.length us.flatten hs hown.1 ad vs.length cap vs.flatten hx hlen hc ?_ b1 b2 b3 ?_
    · intro u hu
      obtain ⟨l, hl, hu⟩ := List.mem_flatten.1 hu
      exact h1c l hl u hu
    · intro v' w' r1 r2 _
      refine hK v' w' ⟨?_, fun u hu => ?_⟩ r2
      · rw [List.length_append, List.flatten_append]
        exact r1
      · rcases List.mem_append.1 hu with h | h
        · exact hown.2 u h
        · exact hv u h
/-- So many things, each of which there is, as a list. -/
theorem list_pick {α : Type} (d : α) (n : Nat) {Q : Nat → α → Prop} (h : ∀ j, j < n → ∃ x, Q j x) : ∃ l : List α, l.length = n ∧ ∀ j, j < n → Q j (l.getD j d) := list_of d Q n h
/-- The cells of operations in a slice. -/
theorem ops_cells {w : World} {ad : Option Addr} {L : List Opr} {n : Nat} (hn : L.length = n) (h : OpsAt w ad L) :
    ∃ vs : List (List Value), vs.length = n ∧ (∀ u ∈ vs, u.length = 9) ∧ (∀ u ∈ vs, ∀ y ∈ u, y.oneCell' = true) ∧ (∀ j, j < n → ∃ b off, ad = some ⟨b, off, none⟩ ∧ ∀ q, q < 9 → w.cell? ⟨b, off + j * 9 + q, none⟩ = some (recAt vs j q)) ∧
      ∀ j, j < n → ∃ ax cx ay cy, vs.getD j [] = opCells (opAt L j) ax cx ay cy ∧ OpAt w (opAt L j) ax cx ay cy := by
  have one : ∀ j, j < n → ∃ u : List Value, (∃ b off, ad = some ⟨b, off, none⟩ ∧ ∀ q, q < 9 → w.cell? ⟨b, off + j * 9 + q, none⟩ = some (u.getD q undef)) ∧ ∃ ax cx ay cy, u = opCells (opAt L j) ax cx ay cy ∧ OpAt w (opAt L j) ax cx ay cy := by
    intro j hj
    obtain ⟨b, off, had, g0, g1, g2, g3, g6, g7, g8, ax, cx, ay, cy, g4, g5, ga⟩ := h.get (show j < L.length by omega)
    refine ⟨opCells (opAt L j) ax cx ay cy, ⟨b, off, had, fun q hq => ?_⟩, ax, cx, ay, cy, rfl, ga⟩
    rcases (show q = 0 ∨ q = 1 ∨ q = 2 ∨ q = 3 ∨ q = 4 ∨ q = 5 ∨ q = 6 ∨ q = 7 ∨ q = 8 by omega) with rfl | rfl | rfl | rfl | rfl | rfl | rfl | rfl | rfl
    · exact g0
    · exact g1
    · exact g2
    · exact g3
    · exact g4
    · exact g5
    · exact g6
    · exact g7
    · exact g8
  obtain ⟨vs, hl, hP⟩ := list_pick [] n one
  have at_ : ∀ u ∈ vs, ∃ j, j < n ∧ u = vs.getD j [] := fun u hu => by
    obtain ⟨j, hj, rfl⟩ := List.getElem_of_mem hu
    exact ⟨j, by omega, by rw [List.getD_eq_getElem?_getD, List.getElem?_eq_getElem hj]; rfl⟩
  refine ⟨vs, hl, fun u hu => ?_, fun u hu => ?_, fun j hj => (hP j hj).1, fun j hj => (hP j hj).2⟩
  · obtain ⟨j, hj, e⟩ := at_ u hu
    obtain ⟨_, ax, cx, ay, cy, e2, _⟩ := hP j hj
    rw [e, e2]
    rfl
  · obtain ⟨j, hj, e⟩ := at_ u hu
    obtain ⟨_, ax, cx, ay, cy, e2, _⟩ := hP j hj
    rw [e, e2]
    exact opCells_one _ _ _ _ _
theorem opAt_left {L M : List Opr} {j : Nat} (h : j < L.length) : opAt (L ++ M) j = opAt L j := by
  unfold opAt
  rw [List.getD_eq_getElem?_getD, List.getElem?_append_left h, ← List.getD_eq_getElem?_getD]
theorem opAt_right {L M : List Opr} {j : Nat} : opAt (L ++ M) (L.length + j) = opAt M j := by
  unfold opAt
  rw [List.getD_eq_getElem?_getD, List.getElem?_append_right (by omega), Nat.add_sub_cancel_left, ← List.getD_eq_getElem?_getD]
/-- Cells of two rows of operations, one behind the other. -/
theorem recs_both {w0 : World} {L M : List Opr} {n m : Nat} {us vs : List (List Value)} (hn : L.length = n) (hu : us.length = n) (hl : ∀ j, j < n → ∃ ax cx ay cy, us.getD j [] = opCells (opAt L j) ax cx ay cy ∧ OpAt w0 (opAt L j) ax cx ay cy)
    (hm : ∀ j, j < m → ∃ ax cx ay cy, vs.getD j [] = opCells (opAt M j) ax cx ay cy ∧ OpAt w0 (opAt M j) ax cx ay cy) : ∀ j, j < n + m → ∃ ax cx ay cy, (us ++ vs).getD j [] = opCells (opAt (L ++ M) j) ax cx ay cy ∧ OpAt w0 (opAt (L ++ M) j) ax cx ay cy := by
  intro j hj
  by_cases h : j < n
  · rw [opAt_left (by omega), List.getD_eq_getElem?_getD, List.getElem?_append_left (by omega), ← List.getD_eq_getElem?_getD]
    exact hl j h
  · obtain ⟨q, rfl⟩ : ∃ q, j = n + q := ⟨j - n, by omega⟩
    subst hn
    rw [opAt_right, List.getD_eq_getElem?_getD, List.getElem?_append_right (by omega), hu, Nat.add_sub_cancel_left, ← List.getD_eq_getElem?_getD]
    exact hm q (by omega)
theorem infoOpP : (Tryd.prog.info? 30).map (fun i => (i.zero, i.size, i.bytes)) = some (some (.agg #[.int .i64 0, .int .i64 0, .int .i64 0, .int .i64 0, .slice none 0 0, .slice none 0 0, .int .i64 0, .int .i64 0, .int .i64 0]), 9, 104) := by kernel_rfl
end Go.Proofs.YtlknopmpbkepjaaDoor

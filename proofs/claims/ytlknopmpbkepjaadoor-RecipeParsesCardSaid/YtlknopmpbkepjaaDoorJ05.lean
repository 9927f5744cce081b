/- Parts, joined. -/
import Derived.Test.YtlknopmpbkepjaaDoorJ02
import Derived.Test.YtlknopmpbkepjaaDoorJ03
import Derived.Test.YtlknopmpbkepjaaDoorJ04
import Derived.Shelf.Strconv.Itoa3
import Derived.Lib.SmallJoins
import Derived.Lib.AtoiAllCases
import Derived.Lib.ParseIntBTie
import Derived.Lib.CutLaws
import Derived.Deep.RegionLaw
import Derived.Laws.CopyOwn
import Derived.Maps.AppendAt
import Derived.Maps.Range
import Derived.Deep.AppendLies
import Derived.Deep.RegionHeld3
import Derived.BigQuiet
import Derived.Deep.DeepCutAuto
/- The library's strconv.Itoa, by the shelf's contract, laid here: a number's digits. -/
namespace Go.Proofs.YtlknopmpbkepjaaDoor
open Go.RowKit


def itoaL_ren : Go.Shelf.Ren := ⟨fun | 171 => 40 | 243 => 53 | 246 => 52 | 283 => 62 | 284 => 63 | 285 => 64 | 286 => 65 | 129 => 73 | 317 => 72 | 318 => 74 | 319 => 75 | 320 => 76 | 337 => 85 | 338 => 86 | n => n, fun | 3 => 3 | 9 => 9 | 2 => 2 | 4 => 4 | 171 => 108 | 0 => 0 | 53 => 98 | 37 => 62 | 5 => 5 | 173 => 111 | 212 => 125 | 51 => 126 | 20 => 20 | 213 => 127 | 46 => 115 | 232 => 141 | 233 => 142 | n => n, fun | 17 => 4 | 18 => 6 | 19 => 7 | n => n⟩
theorem itoaL : Go.Proofs.LaysM.n171 Tryd.prog itoaL_ren := {
  mixed := by kernel_rfl
  f129 := Tryd.func73.trans (congrArg some (by kernel_rfl))
  f171 := Tryd.func40.trans (congrArg some (by kernel_rfl))
  f243 := Tryd.func53.trans (congrArg some (by kernel_rfl))
  f246 := Tryd.func52.trans (congrArg some (by kernel_rfl))
  f283 := Tryd.func62.trans (congrArg some (by kernel_rfl))
  f284 := Tryd.func63.trans (congrArg some (by kernel_rfl))
  f285 := Tryd.func64.trans (congrArg some (by kernel_rfl))
  f286 := Tryd.func65.trans (congrArg some (by kernel_rfl))
  f317 := Tryd.func72.trans (congrArg some (by kernel_rfl))
  f318 := Tryd.func74.trans (congrArg some (by kernel_rfl))
  f319 := Tryd.func75.trans (congrArg some (by kernel_rfl))
  f320 := Tryd.func76.trans (congrArg some (by kernel_rfl))
  f337 := Tryd.func85.trans (congrArg some (by kernel_rfl))
  f338 := Tryd.func86.trans (congrArg some (by kernel_rfl))
  t0 := Tryd.underlying0
  a0 := Tryd.isAgg0
  z0 := Tryd.sizeOf0
  v0 := Tryd.zeroValue0
  t2 := Tryd.underlying2
  a2 := Tryd.isAgg2
  z2 := Tryd.sizeOf2
  v2 := Tryd.zeroValue2
  t3 := Tryd.underlying3
  a3 := Tryd.isAgg3
  z3 := Tryd.sizeOf3
  v3 := Tryd.zeroValue3
  t4 := Tryd.underlying4
  a4 := Tryd.isAgg4
  z4 := Tryd.sizeOf4
  v4 := Tryd.zeroValue4
  t5 := Tryd.underlying5
  a5 := Tryd.isAgg5
  z5 := Tryd.sizeOf5
  v5 := Tryd.zeroValue5
  t9 := Tryd.underlying9
  a9 := Tryd.isAgg9
  z9 := Tryd.sizeOf9
  v9 := Tryd.zeroValue9
  t20 := Tryd.underlying20
  a20 := Tryd.isAgg20
  z20 := Tryd.sizeOf20
  v20 := Tryd.zeroValue20
  t37 := Tryd.underlying62
  a37 := Tryd.isAgg62
  z37 := Tryd.sizeOf62
  v37 := Tryd.zeroValue62
  t46 := Tryd.underlying115
  a46 := Tryd.isAgg115
  z46 := Tryd.sizeOf115
  v46 := Tryd.zeroValue115
  t51 := Tryd.underlying126
  a51 := Tryd.isAgg126
  z51 := Tryd.sizeOf126
  v51 := Tryd.zeroValue126
  t53 := Tryd.underlying98
  a53 := Tryd.isAgg98
  z53 := Tryd.sizeOf98
  v53 := Tryd.zeroValue98
  t171 := Tryd.underlying108
  a171 := Tryd.isAgg108
  z171 := Tryd.sizeOf108
  v171 := Tryd.zeroValue108
  t173 := Tryd.underlying111
  a173 := Tryd.isAgg111
  z173 := Tryd.sizeOf111
  v173 := Tryd.zeroValue111
  t212 := Tryd.underlying125
  a212 := Tryd.isAgg125
  z212 := Tryd.sizeOf125
  v212 := Tryd.zeroValue125
  t213 := Tryd.underlying127
  a213 := Tryd.isAgg127
  z213 := Tryd.sizeOf127
  t232 := Tryd.underlying141
  a232 := Tryd.isAgg141
  z232 := Tryd.sizeOf141
  v232 := Tryd.zeroValue141
  t233 := Tryd.underlying142
  a233 := Tryd.isAgg142
  z233 := Tryd.sizeOf142
  v233 := Tryd.zeroValue142
  g17 := by kernel_rfl
  g18 := by kernel_rfl
  g19 := by kernel_rfl
  i0 := by kernel_rfl
  i2 := by kernel_rfl
  i3 := by kernel_rfl
  i4 := by kernel_rfl
  i5 := by kernel_rfl
  i9 := by kernel_rfl
  i20 := by kernel_rfl
  i37 := by kernel_rfl
  i46 := by kernel_rfl
  i51 := by kernel_rfl
  i53 := by kernel_rfl
  i171 := by kernel_rfl
  i173 := by kernel_rfl
  i212 := by kernel_rfl
  i232 := by kernel_rfl
  i233 := by kernel_rfl
  m17 := by kernel_rfl
  m18 := by kernel_rfl
  m19 := by kernel_rfl }
/-- The library's table of powers of ten is in memory. -/
def Pow10 (w : World) : Prop := Go.Lib.TabIs Tryd.prog w "internal/strconv.uint64pow10" .u64 Go.Lib.pow10Tab
theorem pow10_below (w w' : World) (h : Pow10 w) (hb : Below w.heap.size w w') : Pow10 w' := Go.Joins.tab_stays (g := 4) (by kernel_rfl) h hb (Nat.le_refl _)
theorem dec_map (u : Nat) : (Go.Lib.decDigits u).map (fun b => (b.toNat : Int)) = decF u := by
  induction u using Nat.strongRecOn with
  | ind u ih =>
    rw [Go.Lib.decDigits]
    by_cases h : u < 10
    · rw [dif_pos h, decF_small h, List.map_singleton]
      congr 1
      rw [UInt8.toNat_ofNat']
      omega
    · rw [dif_neg h, decF_more (by omega), List.map_append, ih (u / 10) (by omega), List.map_singleton]
      congr 2
      rw [UInt8.toNat_ofNat']
      omega
theorem itoa_byt (n : Int) : byt ⟨(Go.Lib.itoa n).toArray⟩ = intF n := by
  unfold byt Go.Lib.itoa intF
  show List.map (fun b : UInt8 => (b.toNat : Int)) _ = _
  by_cases h : n < 0
  · rw [if_pos h, if_pos h, List.map_cons, dec_map, show n.natAbs = (-n).toNat by omega]
    rfl
  · rw [if_neg h, if_neg h, dec_map]
theorem below_grow (w : World) (k : Nat) (os : Array Obj) : Below w.heap.size w (Go.Sort.grow (w.drewN k) os) :=
  (bdN (Below.refl _ w) k).trans ⟨rfl, rfl, rfl, by simp [Go.Sort.grow], fun j hj => by
    show ((w.drewN k).heap ++ os)[j]? = _
    exact Array.getElem?_append_left hj⟩
end Go.Proofs.YtlknopmpbkepjaaDoor

/- Operations as texts: a number's digits, read by the library; cutting by the library. Plain. -/
namespace Go.Proofs.YtlknopmpbkepjaaDoor
open Go.RowKit


def byI (l : List UInt8) : List Int := l.map fun b => (b.toNat : Int)
theorem pu_step {acc d : Nat} {V : Int} (hb : ((acc * 10 + (d - 48) : Nat) : Int) ≤ V) (hv : V < 18446744073709551616) : ¬ 1844674407370955162 ≤ acc ∧ ¬ 18446744073709551616 ≤ acc * 10 + (d - 48) := by omega
theorem pu_fold (c : UInt8) (l : List UInt8) (acc : Nat) (hc : 48 ≤ c.toNat ∧ c.toNat ≤ 57) : (byI (c :: l)).foldl (fun a x => 10 * a + (x - 48)) (acc : Int) = (byI l).foldl (fun a x => 10 * a + (x - 48)) ((acc * 10 + (c.toNat - 48) : Nat) : Int) := by
  have e : 10 * (acc : Int) + ((c.toNat : Int) - 48) = ((acc * 10 + (c.toNat - 48) : Nat) : Int) := by omega
  unfold byI
  rw [List.map_cons, List.foldl_cons, e]
theorem fold_ge {l : List UInt8} (n : Nat) (hl : ∀ b ∈ l, 48 ≤ b.toNat ∧ b.toNat ≤ 57) : (n : Int) ≤ (byI l).foldl (fun a x => 10 * a + (x - 48)) (n : Int) := by
  have hb := (val_bound (byI l) (n : Int) (by omega) (fun x hx => by
    obtain ⟨b, hb, rfl⟩ := List.mem_map.1 hx
    have := hl b hb
    omega)).1
  have hp : (1 : Int) ≤ 10 ^ (byI l).length := by
    have : 0 < (10 : Nat) ^ (byI l).length := Nat.pow_pos (by decide)
    have e : ((10 : Int) ^ (byI l).length) = (((10 : Nat) ^ (byI l).length : Nat) : Int) := by push_cast; rfl
    omega
  have hm : (n : Int) * 1 ≤ (n : Int) * 10 ^ (byI l).length := Int.mul_le_mul_of_nonneg_left hp (by omega)
  omega
theorem pu_val (l : List UInt8) : ∀ (acc : Nat), (∀ b ∈ l, 48 ≤ b.toNat ∧ b.toNat ≤ 57) → (byI l).foldl (fun a x => 10 * a + (x - 48)) (acc : Int) < 18446744073709551616 →
    Go.Lib.parseUint10 acc l = .ok ((byI l).foldl (fun a x => 10 * a + (x - 48)) (acc : Int)).toNat := by
  induction l with
  | nil => intro acc _ _; unfold Go.Lib.parseUint10 byI; rfl
  | cons c l ih =>
    intro acc h hv
    have hc := h c List.mem_cons_self
    have hl : ∀ b ∈ l, 48 ≤ b.toNat ∧ b.toNat ≤ 57 := fun b hb => h b (List.mem_cons_of_mem _ hb)
    rw [pu_fold c l acc hc] at hv ⊢
    obtain ⟨s1, s2⟩ := pu_step (fold_ge _ hl) hv
    unfold Go.Lib.parseUint10
    rw [if_pos hc, if_neg s1, if_neg s2]
    exact ih _ hl hv
theorem decd_in (n : Nat) : ∀ b ∈ Go.Lib.decDigits n, 48 ≤ b.toNat ∧ b.toNat ≤ 57 := fun b hb => by
  have := decF_digit n (b.toNat : Int) (by rw [← dec_map]; exact List.mem_map.2 ⟨b, hb, rfl⟩)
  omega
theorem decd_ne (n : Nat) : Go.Lib.decDigits n ≠ [] := fun e => decF_ne n (by rw [← dec_map, e]; rfl)
theorem mag_dec {n : Nat} (h : n < 18446744073709551616) : Go.Lib.parseMag (Go.Lib.decDigits n) = .ok n := by
  unfold Go.Lib.parseMag
  rw [if_neg (decd_ne n)]
  have e : (byI (Go.Lib.decDigits n)).foldl (fun a x => 10 * a + (x - 48)) ((0 : Nat) : Int) = n := by
    show (List.map (fun b : UInt8 => (b.toNat : Int)) _).foldl _ _ = _
    rw [dec_map]
    exact valF_dec n
  rw [pu_val _ 0 (decd_in n) (by rw [e]; omega), e]
  rfl
/-- Of a number's digits the library tells the number. -/
theorem atoi_int {s : ByteArray} {x : Int} (hx : I64P x) (h : byt s = intF x) : Go.Lib.atoiAll s.data.toList = .ok x := by
  have hs : s = ⟨(Go.Lib.itoa x).toArray⟩ := byt_inj (h.trans (itoa_byt x).symm)
  have e : s.data.toList = Go.Lib.itoa x := by rw [hs]
  rw [e]
  unfold I64P at hx
  unfold Go.Lib.itoa
  by_cases g : x < 0
  · rw [if_pos g, Go.Lib.atoiAll_minus, mag_dec (by omega)]
    show (if 9223372036854775808 < x.natAbs then _ else _) = _
    rw [if_neg (by omega)]
    congr 1
    omega
  · rw [if_neg g]
    match hd : Go.Lib.decDigits x.toNat, decd_ne x.toNat with
    | c :: r, _ =>
      have hc := decd_in x.toNat c (by rw [hd]; exact List.mem_cons_self)
      rw [Go.Lib.atoiAll_plain c r (by omega) (by omega), ← hd, mag_dec (by omega)]
      show (if 9223372036854775808 ≤ x.toNat then _ else _) = _
      rw [if_neg (by omega)]
      congr 1
      omega
end Go.Proofs.YtlknopmpbkepjaaDoor

/- Slices of numbers that are made whole and filled, number by number. No number of the program stands in it. -/
namespace Go.Proofs.YtlknopmpbkepjaaDoor
open Go.RowKit


/-- 'make' of so many, as one step of a region that draws its order. -/
theorem step_make_full {P : Program} {ops : Array Oper} {o : Oper} {a : Act} {w : World} {K : Act → World → Prop} {Q : Exit → Act → World → Prop} {E : Prop}
    (hg : o.guard = none) (l c : Operand) (t : TypeId) (hop : o.op = Op.makeSlice t l c)
    (base : Nat) (e : TypeId) (i : TypeInfo) (z : Value) (size : Nat) (h1 : P.underlying t = some (.slice e)) (h2 : P.info? e = some i) (h3 : i.zero = some z) (h4 : i.size = size)
    (kl kc : IntKind) (L C : Int) (n : Nat) (hl : a.eval l = .int kl L) (hc : a.eval c = .int kc C) (hL : L = (n : Int)) (hC : C = (n : Int)) (b2 : i.bytes * n ≤ 281474976710656) (b3 : n ≤ maxLen) (b4 : base ≤ w.heap.size)
    (hK : ∀ w', w'.ownsRow base e size (.slice (some ⟨w.heap.size, 0, none⟩) n n) n (madeCells z.cells (n * size)).toList → w.grownBy w' none → K (a.put o.dst (.slice (some ⟨w.heap.size, 0, none⟩) n n)) w') :
    if Region.wanted o (yielded ops a.tmps) = true then Oper.wp P o a w K Q else E := by
  have hw : Region.wanted o (yielded ops a.tmps) = true := by simp [Region.wanted, hg]
  rw [if_pos hw]
  obtain ⟨w', hrun, r1, r2⟩ := run_make_full (P := P) w base t e i z size h1 h2 h3 h4 kl kc n b2 b3 b4
  subst hL
  subst hC
  unfold Oper.wp
  simp [execOp, hop, hl, hc, hrun, Result.andThen]
  exact hK w' r1 r2
/-- What is made owns noughts. -/
theorem OwnI.made {k : IntKind} {T : TypeId} {w : World} {base : Nat} {v : Value} {n : Nat} (h : w.ownsRow base T 1 v n (madeCells (Value.int k 0).cells (n * 1)).toList) : OwnI k T w base v (List.replicate n 0) := by
  unfold OwnI
  rw [List.length_replicate, List.map_replicate, ← toList_madeCells_one]
  rw [Nat.mul_one] at h
  exact h
/-- So many numbers, the rest nought. -/
def padZ (L : List Int) (n : Nat) : List Int := L ++ List.replicate (n - L.length) 0
theorem padZ_nil (n : Nat) : padZ [] n = List.replicate n 0 := by unfold padZ; simp
theorem padZ_len {L : List Int} {n : Nat} (h : L.length ≤ n) : (padZ L n).length = n := by unfold padZ; rw [List.length_append, List.length_replicate]; omega
theorem padZ_full {L : List Int} {n : Nat} (h : L.length = n) : padZ L n = L := by unfold padZ; rw [h, Nat.sub_self]; simp
theorem padZ_set {L : List Int} {n j : Nat} (hj : L.length = j) (h : j < n) (x : Int) : (padZ L n).set j x = padZ (L ++ [x]) n := by
  subst hj
  unfold padZ
  rw [List.set_append_right _ _ (Nat.le_refl _), Nat.sub_self, List.length_append, List.length_singleton]
  obtain ⟨d, hd⟩ : ∃ d, n - L.length = d + 1 := ⟨n - L.length - 1, by omega⟩
  rw [hd, show n - (L.length + 1) = d by omega, List.replicate_succ, List.set_cons_zero, List.append_assoc]
  rfl
/-- Filled so far. -/
def fillZ (F : Int → Int) (xs : List Int) (n j : Nat) : List Int := padZ ((xs.take j).map F) n
theorem fillZ_zero (F : Int → Int) (xs : List Int) (n : Nat) : fillZ F xs n 0 = List.replicate n 0 := by unfold fillZ; rw [List.take_zero, List.map_nil, padZ_nil]
theorem fillZ_len {F : Int → Int} {xs : List Int} {n j : Nat} (hx : xs.length = n) : (fillZ F xs n j).length = n := padZ_len (by rw [List.length_map, List.length_take]; omega)
theorem fillZ_all {F : Int → Int} {xs : List Int} {n : Nat} (hx : xs.length = n) : fillZ F xs n n = xs.map F := by
  unfold fillZ
  rw [List.take_of_length_le (by omega), padZ_full (by rw [List.length_map]; exact hx)]
theorem fillZ_set {F : Int → Int} {xs : List Int} {n j : Nat} (hx : xs.length = n) (h : j < n) : (fillZ F xs n j).set j (F (xs.getD j 0)) = fillZ F xs n (j + 1) := by
  unfold fillZ
  rw [padZ_set (by rw [List.length_map, List.length_take]; omega) h, take_step xs (by omega), List.map_append]
  rfl
theorem OwnI.of_block {k : IntKind} {T : TypeId} {w : World} {base g n : Nat} {xs : List Int} (hg : w.heap[g]? = some (.cells (xs.map (Value.int k)).toArray T (0, 0))) (hn : xs.length = n) (hb : base ≤ g) (hm : n ≤ maxLen) : OwnI k T w base (.slice (some ⟨g, 0, none⟩) n n) xs := by
  subst hn
  exact ⟨by simp, Or.inr ⟨g, xs.length, _, rfl, hb, hg, Nat.le_refl _, hm, by simp, by rw [List.toList_toArray, Nat.mul_one]; exact List.take_of_length_le (by rw [List.length_map]; exact Nat.le_refl _)⟩⟩
/-- 'copy' into a block that is known whole: what the call answers, and what the block holds then. -/
theorem copy_run {P : Program} (w : World) (dT sT ty elem : TypeId) (hu : P.underlying dT = some (.slice elem)) (hs : (P.info? elem).map (·.size) = some 1) (g o dLen dCap : Nat) (a : Addr) (sLen sCap : Nat) (cur : List Value) (t : TypeId) (cs : List Value) (c : Nat)
    (hg : w.heap[g]? = some (.cells cur.toArray t (0, 0))) (hc : cs.length = c) (hn : c = Nat.min sLen dLen)
    (hsrc : ∀ j v, cs[j]? = some v → w.cell? (a.add j) = some v) (hfit : o + c ≤ cur.length) (h1 : ∀ v ∈ cs, v.oneCell' = true) (B : Nat) (hB : B ≤ g) :
    ∃ w', (Builtin.copy_ #[dT, sT] ty #[.slice (some ⟨g, o, none⟩) dLen dCap, .slice (some a) sLen sCap]).run P w = .ok (.int .i64 (c : Int)) w' ∧ w'.heap[g]? = some (.cells (splice cur o cs).toArray t (0, 0)) ∧ Below B w w' := by
  subst hc
  refine ⟨_, run_copy_row (P := P) w dT sT ty elem g o dLen dCap a sLen sCap cur.toArray t cs hu hs hg hn hsrc (by simpa using hfit) h1, ?_, below_setRow (Below.refl _ _) hB _⟩
  simpa [splice] using setRow_heap w g _ _ t _ hg
theorem below_made {w w1 w2 : World} (h : Below w.heap.size w w1) (hg : w1.grownBy w2 none) : Below w.heap.size w w2 := h.grown hg h.size (fun j hj => by cases hj)
end Go.Proofs.YtlknopmpbkepjaaDoor

/- What a store in one block leaves alone; pieces of rows. No number of the program stands in it. -/
namespace Go.Proofs.YtlknopmpbkepjaaDoor
open Go.RowKit


/-- Nothing that there was is turned, but the block b. -/
theorem grown_set (w : World) (b o : Nat) (u : Value) : w.grownBy (w.setCell ⟨b, o, none⟩ u) (some b) :=
  ⟨rfl, rfl, rfl, by simp [World.setCell], fun k hk hne => Below.heap_setCell _ _ _ _ (fun e => hne (by rw [e]))⟩
theorem grown_drewN (w : World) (n : Nat) (row : Option Nat) : w.grownBy (w.drewN n) row := ⟨rfl, rfl, rfl, Nat.le_refl _, fun _ _ _ => rfl⟩
theorem grown_drew (w : World) (row : Option Nat) : w.grownBy w.drew row := ⟨rfl, rfl, rfl, Nat.le_refl _, fun _ _ _ => rfl⟩
theorem grown_below {w w' : World} (h : Below w.heap.size w w') (row : Option Nat) : w.grownBy w' row := ⟨h.os, h.tape, h.output, h.size, fun k hk _ => h.block k hk⟩
theorem below_grown {w w' : World} (h : w.grownBy w' none) : Below w.heap.size w w' := ⟨h.os, h.tape, h.output, h.size, fun k hk => h.block k hk (by simp)⟩
/-- A cell of another block. -/
theorem cg {w w' : World} {row : Option Nat} {b o : Nat} {v : Value} (hg : w.grownBy w' row) (hne : some b ≠ row) (hc : w.cell? ⟨b, o, none⟩ = some v) : w'.cell? ⟨b, o, none⟩ = some v := hg.cell hc hne
theorem fg {w w' : World} {row : Option Nat} {b o : Nat} {v : Value} (hg : w.grownBy w' row) (hne : some b ≠ row) (hc : w.cell? ⟨b, o, none⟩ = some v) (hf : w.frozen? ⟨b, o, none⟩ = false) : w'.frozen? ⟨b, o, none⟩ = false :=
  (hg.frozen_far ⟨b, o, none⟩ (cell_ltL hc) hne).trans hf
theorem RowAt.grown {k : IntKind} {w w' : World} {b off : Nat} {xs : List Int} {row : Option Nat} (h : RowAt k w (some ⟨b, off, none⟩) xs) (hg : w.grownBy w' row) (hne : some b ≠ row) : RowAt k w' (some ⟨b, off, none⟩) xs := by
  by_cases e : xs = []
  · exact Or.inl e
  · exact Or.inr ⟨b, off, rfl, fun j hj => cg hg hne (h.at hj)⟩
/-- A piece of a row. -/
theorem RowAt.part {k : IntKind} {w : World} {b off : Nat} {xs : List Int} (h : RowAt k w (some ⟨b, off, none⟩) xs) (i n : Nat) (hn : i + n ≤ xs.length) : RowAt k w (some ⟨b, off + i, none⟩) ((xs.drop i).take n) := by
  refine Or.inr ⟨b, off + i, rfl, fun j hj => ?_⟩
  have hj' : j < n := by rw [List.length_take] at hj; omega
  have := h.at (j := i + j) (by omega)
  rw [← Nat.add_assoc] at this
  rw [this, List.getD_eq_getElem?_getD, List.getD_eq_getElem?_getD, List.getElem?_take, if_pos hj', List.getElem?_drop]
/-- One number of it is written over. -/
theorem RowAt.put {k : IntKind} {w : World} {b off : Nat} {xs : List Int} (h : RowAt k w (some ⟨b, off, none⟩) xs) (j : Nat) (hj : j < xs.length) (x : Int) : RowAt k (w.setCell ⟨b, off + j, none⟩ (.int k x)) (some ⟨b, off, none⟩) (xs.set j x) := by
  refine Or.inr ⟨b, off, rfl, fun i hi => ?_⟩
  rw [List.length_set] at hi
  by_cases e : i = j
  · subst e
    rw [World.cell?_setCell_same' _ _ _ (by rw [h.at hi]; rfl), List.getD_eq_getElem?_getD, List.getElem?_set_self hi]
    rfl
  · rw [World.cell?_setCell_other _ _ _ _ (by intro e'; simp only [Addr.mk.injEq, and_true] at e'; omega), h.at hi, List.getD_eq_getElem?_getD, List.getD_eq_getElem?_getD, List.getElem?_set_ne (fun g => e g.symm)]
theorem own_row {k : IntKind} {T : TypeId} {w : World} {base n : Nat} {v : Value} {xs : List Int} (h : OwnI k T w base v xs) (hn : xs.length = n) (h0 : 1 ≤ n) :
    ∃ b cap, v = .slice (some ⟨b, 0, none⟩) n cap ∧ base ≤ b ∧ b < w.heap.size ∧ RowAt k w (some ⟨b, 0, none⟩) xs ∧ n ≤ cap ∧ ∀ j, w.frozen? ⟨b, j, none⟩ = false := by
  have h' := h
  subst hn
  obtain ⟨ad, cap, rfl, hr, hz, hs, hc⟩ := h.form
  rcases ad with _ | a
  · have := (hz rfl).1
    rw [this] at h0
    exact absurd h0 (by decide)
  · obtain ⟨g, rfl, hb, hl⟩ := hs a rfl
    exact ⟨g, cap, rfl, hb, hl, hr, hc, fun j => OwnI.frozenAt h' rfl j⟩
/-- The world but for how much of the tape is drawn. -/
def Drew (w w' : World) : Prop := ∃ m, w' = w.drewN m
theorem Drew.refl (w : World) : Drew w w := ⟨0, rfl⟩
theorem Drew.more {w w' : World} (h : Drew w w') (n : Nat) : Drew w (w'.drewN n) := by
  obtain ⟨m, rfl⟩ := h
  exact ⟨m + n, World.drewN_drewN _ _ _⟩
theorem Drew.below {w w' : World} (h : Drew w w') : Below w.heap.size w w' := by
  obtain ⟨m, rfl⟩ := h
  exact bdN (Below.refl _ _) m
theorem Drew.grown {w w' : World} (h : Drew w w') (row : Option Nat) : w.grownBy w' row := grown_below h.below row
/-- A callee that only draws, in a region that draws and only reads. -/
theorem calmD {P : Program} {f : FuncId} {args : Array Value} {u : Value} {w : World} {n : Nat} (h : Calls P f args (w.drewN n) fun e w' => e = .returned u ∧ Drew (w.drewN n) w') :
    Calls P f args (w.drewN n) fun e w'' => e = .returned u ∧ ∃ m, w'' = w.drewN m := Calls.quiet_of h
end Go.Proofs.YtlknopmpbkepjaaDoor

/- The document's heads: no head; a head's text. -/
namespace Go.Proofs.YtlknopmpbkepjaaDoor
open Go.RowKit

/-! ### Texts -/
theorem conv1 (x : Int) (h0 : 0 ≤ x) (h1 : x ≤ 255) : ∃ q : ByteArray, byt q = [x] ∧ q.size = 1 ∧ ∀ w : World, (convert 62 9 (.slice (some ⟨w.heap.size, 0, none⟩) 1 1)).run Tryd.prog (w.alloc (.cells #[.int .u8 x] 5)) = .ok (.string q) (w.alloc (.cells #[.int .u8 x] 5)) := by
  refine ⟨strOfNums [x], byt_nums (by intro y hy; simp at hy; subst hy; exact ⟨h0, h1⟩), by rw [strOfNums_size]; rfl, fun w => ?_⟩
  refine run_convert_bytes_arg (P := Tryd.prog) (w.alloc (.cells #[.int .u8 x] 5)) 62 5 Tryd.underlying62 Tryd.underlying5 w.heap.size 0 1 1 [x] rfl ?_ 9 Tryd.underlying9
  intro i hi
  obtain rfl : i = 0 := by omega
  simp
theorem decF_len (n : Nat) : ∀ k, 1 ≤ k → n < 10 ^ k → (decF n).length ≤ k := by
  induction n using Nat.strongRecOn with
  | ind n ih =>
    intro k hk hn
    by_cases h : n < 10
    · rw [decF_small h]; simpa using hk
    · rw [decF_more (by omega), List.length_append, List.length_singleton]
      obtain ⟨j, rfl⟩ : ∃ j, k = j + 1 := ⟨k - 1, by omega⟩
      have hj : 1 ≤ j := by
        rcases Nat.eq_zero_or_pos j with e | e
        · subst e; omega
        · exact e
      have := ih (n / 10) (by omega) j hj (by rw [Nat.pow_succ] at hn; omega)
      omega
/-- The digits ahead of the last one. -/
def hiF (n : Nat) : List Int := if n < 10 then [] else decF (n / 10)
theorem decF_last (n : Nat) : decF n = hiF n ++ [48 + ((n % 10 : Nat) : Int)] := by
  unfold hiF
  by_cases h : n < 10
  · rw [if_pos h, decF_small h, Nat.mod_eq_of_lt h]; rfl
  · rw [if_neg h]; exact decF_more (by omega)
set_option maxHeartbeats 1000000 in
theorem dpos_any (N : Nat) (hN : N < 18446744073709551616) (w : World) : Calls Tryd.prog 51 #[.int .u64 (N : Int)] w fun e w' => ∃ t, e = .returned (.string t) ∧ byt t = decF N ∧ Below w.heap.size w w' := by
  have HL := hide (decF_len N 20 (by omega) (by omega))
  have HD := hide (decF_last N)
  obtain ⟨d, hd, hd9⟩ : ∃ d : Int, (N : Int) % 10 = d ∧ 0 ≤ d ∧ d ≤ 9 := ⟨_, rfl, by omega, by omega⟩
  obtain ⟨q, hq, hqs, hqr⟩ := conv1 (48 + d) (by omega) (by omega)
  have HQ := hide (show byt q = [48 + ((N % 10 : Nat) : Int)] by rw [hq, ← hd]; rfl)
  obtain ⟨d0, d1⟩ := hd9
  clear hq
  go_enter Tryd.func51, Tryd.ntmps51
  go_wp2
  clear hd hqr d0 d1
  go_loopw [0, 3] (fun a b wr => ∃ (n : Nat) (t : ByteArray), n < 18446744073709551616 ∧ a = .int .u64 (n : Int) ∧ b = .string t ∧ Hid (hiF n ++ byt t = decF N) ∧ Hid (Below w.heap.size w wr)) (fun a _ _ => (intOf a).toNat)
  case atStart => exact ⟨N, q, hN, rfl, rfl, hide (by rw [HQ.out]; exact HD.out.symm), hide (below1 _ _)⟩
  case round =>
    obtain ⟨n, t, hn, rfl, rfl, ht, hb⟩ := hrel
    by_cases h10 : n < 10
    · have h1 := ht.out
      unfold hiF at h1
      rw [if_pos h10] at h1
      have H1 := hide h1
      clear h1
      go_wp2
      go_ret
      exact ⟨t, rfl, H1.out, hb.out⟩
    · have h1 := ht.out
      have hts : t.size ≤ 20 := by
        have a := congrArg List.length h1
        rw [List.length_append, byt_len] at a
        have := HL.out
        omega
      obtain ⟨n', hn'⟩ : ∃ n' : Nat, n / 10 = n' := ⟨_, rfl⟩
      have hni : (n : Int) / 10 = (n' : Int) := by omega
      obtain ⟨e, he, he0, he1⟩ : ∃ e : Int, (n' : Int) % 10 = e ∧ 0 ≤ e ∧ e ≤ 9 := ⟨_, rfl, by omega, by omega⟩
      obtain ⟨p, hp, hps, hpr⟩ := conv1 (48 + e) (by omega) (by omega)
      have H1 := hide (show hiF n' ++ byt (p ++ t) = decF N by
        rw [byt_add, hp, ← h1]
        have a : hiF n = decF n' := by unfold hiF; rw [if_neg h10, hn']
        rw [a, decF_last n', ← he, List.append_assoc]
        rfl)
      clear h1 hp
      have hnl : n' < n := by omega
      clear hn'
      go_wp2
      go_roundw
      case rel => exact ⟨n', p ++ t, by omega, rfl, rfl, H1, hide (ba hb.out _)⟩
      case measure => simp [intOf]; omega
theorem ddec_any (n : Int) (h0 : -9223372036854775808 ≤ n) (h1 : n ≤ 9223372036854775807) (w : World) : Calls Tryd.prog 36 #[.int .i64 n] w fun e w' => ∃ t, e = .returned (.string t) ∧ byt t = intF n ∧ t.size ≤ 21 ∧ Below w.heap.size w w' := by
  by_cases h : n < 0
  · have CP := fun (x : Int) (hx : x = ((-n).toNat : Int)) w => (show Calls Tryd.prog 51 #[.int .u64 x] w _ from hx ▸ dpos_any (-n).toNat (by omega) w)
    have HL := hide (decF_len (-n).toNat 20 (by omega) (by omega))
    have HE := hide (show intF n = [45] ++ decF (-n).toNat by unfold intF; rw [if_pos h]; rfl)
    go_enter Tryd.func36, Tryd.ntmps36
    go_wp2_with (go_at_call 51; (with_reducible refine (CP _ (by omega) _).mono ?_); rintro e w1 ⟨t, rfl, ht, b1⟩; have hts : t.size ≤ 20 := (by have a := byt_len t; rw [ht] at a; have := HL.out; omega))
    go_ret
    refine ⟨_, rfl, ?_, ?_, b1⟩
    · rw [byt_add, ht, HE.out]; rfl
    · rw [ByteArray.size_append]; show 1 + t.size ≤ 21; omega
  · have CP := fun (x : Int) (hx : x = (n.toNat : Int)) w => (show Calls Tryd.prog 51 #[.int .u64 x] w _ from hx ▸ dpos_any n.toNat (by omega) w)
    have HL := hide (decF_len n.toNat 20 (by omega) (by omega))
    have HE := hide (show intF n = decF n.toNat by unfold intF; rw [if_neg h])
    have h' : 0 ≤ n := by omega
    go_enter Tryd.func36, Tryd.ntmps36
    go_wp2_with (go_at_call 51; (with_reducible refine (CP _ (by omega) _).mono ?_); rintro e w1 ⟨t, rfl, ht, b1⟩; have hts : t.size ≤ 20 := (by have a := byt_len t; rw [ht] at a; have := HL.out; omega))
    go_ret
    exact ⟨_, rfl, by rw [ht, HE.out], by omega, b1⟩
end Go.Proofs.YtlknopmpbkepjaaDoor

/- Parts, joined. -/
import Derived.Test.YtdpkigdfhfippaaGreatDoorJ22
import Derived.Test.YtdpkigdfhfippaaGreatDoorJ23
import Derived.Maps.OwnSet
import Derived.Maps.RangeWalk
import Derived.Maps.OwnOps
import Derived.WideKeyEntry
/- Plans: pixels that have been met, each once; how many; a map of them. Plain; no number of the program stands in it. -/
namespace Go.Proofs.YtdpkigdfhfippaaGreatDoor
open Go.RowKit Go.Maps

/-- How many pixels stand in the first k tiles. -/
def areaF (nx ny a b A k : Int) : Int := nx * min (k / A * b) ny + k % A * a * min b (ny - k / A * b)
theorem area_le {nx ny a b A k : Int} (hA : 1 ≤ A) (ha : 1 ≤ a) (hx : k % A * a ≤ nx) : areaF nx ny a b A k ≤ nx * ny := by
  unfold areaF
  have z : 0 ≤ k % A * a := Int.mul_nonneg (Int.emod_nonneg _ (by omega)) (by omega)
  rcases Int.lt_or_le (k / A * b) ny with h | h
  · rw [Int.min_eq_left (by omega)]
    have h1 : k % A * a * min b (ny - k / A * b) ≤ k % A * a * (ny - k / A * b) := Int.mul_le_mul_of_nonneg_left (by omega) z
    have h2 : k % A * a * (ny - k / A * b) ≤ nx * (ny - k / A * b) := Int.mul_le_mul_of_nonneg_right hx (by omega)
    have h3 : nx * (k / A * b) + nx * (ny - k / A * b) = nx * ny := by rw [← Int.mul_add]; congr 1; omega
    omega
  · rw [Int.min_eq_right h]
    have h1 : k % A * a * min b (ny - k / A * b) ≤ k % A * a * 0 := Int.mul_le_mul_of_nonneg_left (by omega) z
    omega
theorem area_zero {nx ny a b A : Int} (hy : 0 ≤ ny) : areaF nx ny a b A 0 = 0 := by
  unfold areaF
  simp [Int.min_eq_left hy]
theorem area_nonneg {nx ny a b A k : Int} (hA : 1 ≤ A) (ha : 1 ≤ a) (hb : 1 ≤ b) (nx0 : 0 ≤ nx) (k0 : 0 ≤ k) (hy : k / A * b < ny) : 0 ≤ areaF nx ny a b A k := by
  unfold areaF
  have z : 0 ≤ k % A * a := Int.mul_nonneg (Int.emod_nonneg _ (by omega)) (by omega)
  have z2 : 0 ≤ k / A * b := Int.mul_nonneg (Int.ediv_nonneg k0 (by omega)) (by omega)
  have h1 := Int.mul_nonneg nx0 (show 0 ≤ min (k / A * b) ny by omega)
  have h2 := Int.mul_nonneg z (show 0 ≤ min b (ny - k / A * b) by omega)
  omega
/-- One tile more. -/
theorem area_step {nx ny a b A k : Int} (hA : 1 ≤ A) (hy : k / A * b < ny) (hl : k % A + 1 = A → nx ≤ k % A * a + a) (hm : k % A + 1 < A → (k % A + 1) * a < nx) :
    areaF nx ny a b A (k + 1) = areaF nx ny a b A k + min a (nx - k % A * a) * min b (ny - k / A * b) := by
  have h0 := Int.emod_nonneg k (show A ≠ 0 by omega)
  have h1 := Int.emod_lt_of_pos k (show 0 < A by omega)
  have e := Int.emod_add_mul_ediv k A
  rw [Int.mul_comm] at e
  unfold areaF
  by_cases g : k % A + 1 < A
  · have p := plc_of (A := A) (i := k % A + 1) (j := k / A) (by omega) g
    rw [show k / A * A + (k % A + 1) = k + 1 by omega] at p
    rw [p.1, p.2]
    have := hm g
    rw [Int.add_mul] at this ⊢
    rw [Int.min_eq_left (show a ≤ nx - k % A * a by omega), Int.one_mul, Int.add_mul]
    omega
  · have p := plc_of (A := A) (i := 0) (j := k / A + 1) (by omega) (by omega)
    rw [show (k / A + 1) * A + 0 = k + 1 by rw [Int.add_mul]; omega] at p
    rw [p.1, p.2]
    have := hl (by omega)
    generalize k % A * a = X at *
    rw [Int.add_mul, Int.one_mul]
    generalize k / A * b = Y at *
    rw [Int.zero_mul, Int.zero_mul, Int.add_zero, Int.min_eq_left (show Y ≤ ny by omega), Int.min_eq_right (show nx - X ≤ a by omega), Int.add_assoc, ← Int.add_mul, show X + (nx - X) = nx by omega, ← Int.mul_add]
    congr 1
    omega
/-- Pixels that have been met: those of tiles below k; of tile k those of the columns left of x, and of column x those above y. -/
def Met (LX : List (Int × List Int)) (nx ny a b k x y : Int) (u v : Int) : Prop := 0 ≤ u ∧ u < nx ∧ 0 ≤ v ∧ v < ny ∧ (findF LX a b u v < k ∨ (findF LX a b u v = k ∧ (u < x ∨ (u = x ∧ v < y))))
theorem Met.down {LX : List (Int × List Int)} {nx ny a b k x y u v : Int} (h : Met LX nx ny a b k x y u v) : Met LX nx ny a b k x (y + 1) u v := by
  obtain ⟨h0, h1, h2, h3, h⟩ := h
  exact ⟨h0, h1, h2, h3, h.imp id (fun ⟨e, h⟩ => ⟨e, by omega⟩)⟩
theorem Met.right {LX : List (Int × List Int)} {nx ny a b k x y u v : Int} (z : Int) (h : Met LX nx ny a b k x y u v) : Met LX nx ny a b k (x + 1) z u v := by
  obtain ⟨h0, h1, h2, h3, h⟩ := h
  exact ⟨h0, h1, h2, h3, h.imp id (fun ⟨e, h⟩ => ⟨e, by omega⟩)⟩
theorem Met.next {LX : List (Int × List Int)} {nx ny a b k x y u v : Int} (p q : Int) (h : Met LX nx ny a b k x y u v) : Met LX nx ny a b (k + 1) p q u v := by
  obtain ⟨h0, h1, h2, h3, h⟩ := h
  exact ⟨h0, h1, h2, h3, .inl (by rcases h with h | ⟨e, _⟩ <;> omega)⟩
theorem Met.new {LX : List (Int × List Int)} {nx ny a b k x y : Int} (x0 : 0 ≤ x) (x1 : x < nx) (y0 : 0 ≤ y) (y1 : y < ny) (e : findF LX a b x y = k) : Met LX nx ny a b k x (y + 1) x y ∧ ¬ Met LX nx ny a b k x y x y :=
  ⟨⟨x0, x1, y0, y1, .inr ⟨e, .inr ⟨rfl, by omega⟩⟩⟩, fun h => by
    obtain ⟨_, _, _, _, h⟩ := h
    omega⟩
/-- In which tile a pixel of a tile is. -/
theorem find_til {LX : List (Int × List Int)} {a b k i j : Int} (i0 : 0 ≤ i) (i1 : i < a) (j0 : 0 ≤ j) (j1 : j < b) :
    findF LX a b (k % acrossF LX a * a + i) (k / acrossF LX a * b + j) = k := by
  unfold findF
  rw [find_of i0 i1, find_of j0 j1]
  have e := Int.emod_add_mul_ediv k (acrossF LX a)
  rw [Int.mul_comm] at e
  omega
/-! ### A map of pixels -/
section
variable {H : Type}
/-- A pixel's key. -/
def pxK (x y : Int) : Lit := .string (keyBytes [.int .i64 x, .int .i64 y, .int .i64 0, .int .i64 0])
theorem pxK_key (x y : Int) : WideAt.IsKeyLit (pxK x y) := trivial
/-- A map, each key of which is that of a pixel of P, and counts one; it has so many. -/
structure CovD (D : DataW H) (P : Int → Int → Prop) (n : Nat) : Prop where
  tidy : Tidy D
  keys : ∀ l, has D l = true → ∃ x y, l = pxK x y ∧ P x y
  ones : ∀ l, has D l = true → ∀ z, D.atKey l z = .lit (.int .i64 1)
  size : size D = n
theorem CovD.nil (P : Int → Int → Prop) : CovD (.map [] : DataW H) P 0 := ⟨tidy_empty, (fun l h => by cases h), (fun l h => by cases h), rfl⟩
theorem CovD.mono {D : DataW H} {P P' : Int → Int → Prop} {n : Nat} (h : CovD D P n) (g : ∀ x y, P x y → P' x y) : CovD D P' n :=
  ⟨h.tidy, fun l hl => by obtain ⟨x, y, e, p⟩ := h.keys l hl; exact ⟨x, y, e, g x y p⟩, h.ones, h.size⟩
theorem CovD.lacks {D : DataW H} {P : Int → Int → Prop} {n : Nat} (h : CovD D P n) {x y : Int} (inj : ∀ u v, P u v → pxK x y = pxK u v → x = u ∧ y = v) (ne : ¬ P x y) : has D (pxK x y) = false := by
  cases hh : has D (pxK x y)
  · rfl
  · obtain ⟨u, v, e, p⟩ := h.keys _ hh
    obtain ⟨rfl, rfl⟩ := inj u v p e
    exact absurd p ne
theorem CovD.more {D : DataW H} {P P' : Int → Int → Prop} {n : Nat} (h : CovD D P n) {x y : Int} (hn : has D (pxK x y) = false) (g : ∀ u v, P u v → P' u v) (p : P' x y) : CovD (D.put (pxK x y) (.lit (.int .i64 1))) P' (n + 1) := by
  refine ⟨h.tidy.put (pxK_key x y) _, fun l hl => ?_, fun l hl z => ?_, ?_⟩
  · by_cases e : l = pxK x y
    · exact ⟨x, y, e, p⟩
    · rw [has_put_other e] at hl
      obtain ⟨u, v, e, q⟩ := h.keys l hl
      exact ⟨u, v, e, g u v q⟩
  · by_cases e : l = pxK x y
    · subst e
      exact atKey_put_same h.tidy.isMap (pxK_key x y) _ _
    · rw [has_put_other e] at hl
      rw [atKey_put_other e]
      exact h.ones l hl z
  · rw [size_put h.tidy, hn, h.size]
    rfl
theorem cov_zero {D : DataW H} {x y c : Int} (hn : has D (pxK x y) = false) (hc : D.atKey (pxK x y) (.lit (.int .i64 0)) = .lit (.int .i64 c)) : c = 0 := by
  rw [atKey_of_not_has hn] at hc
  simp only [DataW.lit.injEq, Lit.int.injEq, true_and] at hc
  exact hc.symm
theorem CovD.one {D : DataW H} {P : Int → Int → Prop} {n : Nat} (h : CovD D P n) {l : Lit} {c : Int} (hc : ∀ z, D.atKey l z = .lit (.int .i64 c)) : c = 1 := by
  have e := (hc .nil).symm.trans (h.ones l (has_true_of_atKey hc) .nil)
  simp only [DataW.lit.injEq, Lit.int.injEq, true_and] at e
  exact e
end
end Go.Proofs.YtdpkigdfhfippaaGreatDoor

/- m[k]++ in a region that draws its order, at a key that isn't there yet: the look-up ahead of the entry, and behind it; the store into the entry. No number of the program stands in it. -/
namespace Go.Proofs.YtdpkigdfhfippaaGreatDoor
open Go.RowKit Go.Maps Go.MapKept Go.ChangeMaps
open Go.WideElems (Fit rd rg rd_key rg_of findIdx_arr findIdx_born modify_last)

theorem setBlock_twice (w : World) (b : Nat) (o o' : Obj) : setBlock (setBlock w b o) b o' = setBlock w b o' := by
  unfold setBlock
  simp
/-- A map's block has no cell. -/
theorem map_nocell {H : Type} {P : Program} {k : TypeId} {R : Value → Option (DataW H × List MemPlace)} {w : World} {b n : Nat} {D : DataW H} (h : w.ownsMap P k R b n D) (o : Nat) : w.cell? ⟨b, o, none⟩ = none := by
  obtain ⟨es, clock, hb, _⟩ := h
  unfold World.cell?
  simp [hb]
theorem map_apart {H : Type} {P : Program} {k : TypeId} {R : Value → Option (DataW H × List MemPlace)} {w : World} {b n : Nat} {D : DataW H} (h : w.ownsMap P k R b n D) {c o : Nat} {v : Value} (hc : w.cell? ⟨c, o, none⟩ = some v) : some c ≠ some b := fun e => by
  obtain rfl := Option.some.inj e
  rw [map_nocell h o] at hc
  cases hc
theorem entry_put {P : Program} {t : TypeId} {w : World} {b st i : Nat} {es es' : Array MapEntry} {clock : Nat} {v : Value} (hb : w.heap[b]? = some (.map es clock)) (hidx : es.findIdx? (fun e => ((e.born : Nat) : Int) == ((st : Nat) : Int)) = some i) (hmod : es.modify i (fun e => { e with val := v }) = es') :
    (Instr.entryStore t (.map (some b)) (.int .i64 (st : Int)) v).run P w = .ok () (setBlock w b (.map es' clock)) := by
  subst hmod
  simp [Instr.entryStore, MapKept.run_getObj_map hb, asInt, asIntOf, hidx, MapKept.run_setObj_map _ hb, Result.andThen, setBlock]
theorem map_fresh {H : Type} {P : Program} {t k e : TypeId} {w : World} {b n : Nat} {D : DataW H} (KL : WideMaps.KeyLaw P k) (ht : P.underlying t = some (.map k e)) (he : P.underlying e = some (.int .i64)) (hz : ∀ u : World, (zeroValue e).run P u = .ok (.int .i64 0) u)
    (hown : w.ownsMap P k (plainElem P e) b n D) (hn : n < maxLen) {key : Value} {kl : Lit} (hkey : keyOf P k key = some kl) (hno : Maps.has D kl = false) (x : Int) (hx : (Lit.int .i64 x).wf = true) :
    ∃ (st : Nat) (w1 w2 : World), (Instr.lookup t (.map (some b)) key false).run P w = .ok (.int .i64 0) w ∧
      (Instr.mapEntry t (.map (some b)) key).run P w = .ok (.tuple #[.int .i64 0, .int .i64 (st : Int)]) w1 ∧
      (Instr.lookup t (.map (some b)) key false).run P w1 = .ok (.int .i64 0) w1 ∧
      (Instr.entryStore t (.map (some b)) (.int .i64 (st : Int)) (.int .i64 x)).run P w1 = .ok () w2 ∧
      w2.ownsMap P k (plainElem P e) b (n + 1) (D.put kl (.lit (.int .i64 x))) ∧ w.grownBy w1 (some b) ∧ w.grownBy w2 (some b) := by
  have K := Keyed.of_law KL
  have hw0 : (Lit.int .i64 0).wf = true := by decide
  have hkk : WideAt.IsKeyLit kl := K.key hkey
  obtain ⟨c, r1, a1, _⟩ := hown.lookup_int K ht he (hz w) hkey
  rw [atKey_of_not_has hno] at a1
  simp only [DataW.lit.injEq, Lit.int.injEq, true_and] at a1
  subst a1
  obtain ⟨wa, ra, oa, ga⟩ := hown.update K ht hn hkey (plainElem_int he hw0)
  obtain ⟨wb, rb, ob, gb⟩ := hown.update K ht hn hkey (plainElem_int he hx)
  have hm := hown.isMap
  obtain ⟨es, clock, hb, F, hs, rfl⟩ := hown
  have h2 : (Instr.findKey k key es.toList).run P w = .ok none w := by
    rcases K.find w hkey es.toList F.keys with ⟨h1, _⟩ | ⟨j, e0, _, h2, h3⟩
    · exact h1
    · exfalso
      have hmem := List.mem_of_getElem? h2
      obtain ⟨y, hy⟩ := F.reads e0 hmem
      have hk2 := rd_key hy
      rw [h3, hkey] at hk2
      have hy1 : y.1 = kl := (Option.some.inj hk2).symm
      have : Maps.has (DataW.map ((es.toList.map (rg P k (plainElem P e))).foldr DataW.insert [])) kl = true :=
        List.any_eq_true.2 ⟨rg P k (plainElem P e) e0, mem_sorted.2 (List.mem_map.2 ⟨e0, hmem, rfl⟩), by rw [rg_of hy, hy1]; exact WideAt.sameKey_self hkk⟩
      rw [this] at hno
      cases hno
  have hz' := hz w
  obtain ⟨s1, s2, _⟩ := F.stamped
  have ua : (Instr.mapUpdate t (.map (some b)) key (.int .i64 0)).run P w = .ok () (setBlock w b (.map (es.push ⟨key, .int .i64 0, clock⟩) (clock + 1))) := by
    simp [Instr.mapUpdate, run_underlying ht, MapKept.run_getObj_map hb, K.check w false hkey, h2, MapKept.run_setObj_map _ hb, Result.andThen, setBlock]
  have ub : (Instr.mapUpdate t (.map (some b)) key (.int .i64 x)).run P w = .ok () (setBlock w b (.map (es.push ⟨key, .int .i64 x, clock⟩) (clock + 1))) := by
    simp [Instr.mapUpdate, run_underlying ht, MapKept.run_getObj_map hb, K.check w false hkey, h2, MapKept.run_setObj_map _ hb, Result.andThen, setBlock]
  have em : (Instr.mapEntry t (.map (some b)) key).run P w = .ok (.tuple #[.int .i64 0, .int .i64 (clock : Int)]) (setBlock w b (.map (es.push ⟨key, .int .i64 0, clock⟩) (clock + 1))) := by
    simp [Instr.mapEntry, run_underlying ht, MapKept.run_getObj_map hb, K.check w false hkey, h2, hz', MapKept.run_setObj_map _ hb, Result.andThen, setBlock, goInt]
  rw [ua] at ra
  rw [ub] at rb
  simp only [Result.ok.injEq, true_and] at ra rb
  subst ra rb
  obtain ⟨c, r2, a2, _⟩ := oa.lookup_int K ht he (hz _) hkey
  rw [atKey_put_same hm hkk] at a2
  simp only [DataW.lit.injEq, Lit.int.injEq, true_and] at a2
  subst a2
  refine ⟨clock, _, _, r1, em, r2, ?_, ob, ga, gb⟩
  have hw2 : (setBlock w b (.map (es.push ⟨key, .int .i64 0, clock⟩) (clock + 1))).heap[b]? = some (.map (es.push ⟨key, .int .i64 0, clock⟩) (clock + 1)) := heap_setBlock_same hb _
  have hidx : (es.push ⟨key, .int .i64 0, clock⟩).findIdx? (fun e => ((e.born : Nat) : Int) == ((clock : Nat) : Int)) = some es.size := by
    rw [findIdx_arr]
    have := findIdx_born (l := (es.push ⟨key, .int .i64 0, clock⟩).toList) (j := es.size) (e0 := ⟨key, .int .i64 0, clock⟩) (by
      simp only [Array.toList_push, List.map_append, List.map_cons, List.map_nil]
      refine List.nodup_append.2 ⟨s2, by simp, fun a ha c hc e1 => ?_⟩
      simp only [List.mem_singleton] at hc
      obtain ⟨x, hx, rfl⟩ := List.mem_map.1 ha
      have := s1 x hx
      omega) (by simp)
    exact this
  have hmod : (es.push ⟨key, .int .i64 0, clock⟩).modify es.size (fun e => { e with val := .int .i64 x }) = es.push ⟨key, .int .i64 x, clock⟩ := by
    apply Array.ext'
    rw [Array.toList_modify, Array.toList_push, Array.toList_push, ← Array.length_toList, modify_last]
  have := entry_put (P := P) (t := t) hw2 hidx hmod
  rw [setBlock_twice] at this
  exact this
/-- 'for _, v := range m': keys of whatever kind, elements that are integers. -/
theorem wpList_next_ranges_vi {H : Type} {P : Program} (w : World) {ops : Array Oper} {rest : List Oper} {o : Oper} {a : Act} {Q : Exit → Act → World → Prop} (hg : o.guard = none) (it : Operand) (hop : o.op = Op.next it false) (k e : TypeId) (qe : IntKind) (K : Keyed P k) (he : P.underlying e = some (.int qe))
    (b r n : Nat) (D : DataW H) (left : Lit → Bool) (cnt : Nat) (hit : a.eval it = .pointer (some ⟨r, 0, none⟩)) (h : w.ranges P k (plainElem P e) b r n D left cnt)
    (hDone : cnt = 0 → wpList P ops Q rest (a.put o.dst (.tuple #[.bool false])) w)
    (hMore : ∀ (x : Value) (c : Int) (kl : Lit) (w' : World) (cnt' : Nat), left kl = true → (∀ zd, D.atKey kl zd = .lit (.int qe c)) → w'.ranges P k (plainElem P e) b r n D (fun z => left z && !z.sameKey kl) cnt' → cnt' < cnt →
      w.grownBy w' (some r) → w'.heap.size = w.heap.size → (Instr.entry (.pointer (some ⟨r, 0, none⟩))).run P w' = .ok (.tuple #[x, .int qe c]) w' → wpList P ops Q rest (a.put o.dst (.tuple #[.bool true, x, .int qe c])) w') :
    wpList P ops Q (o :: rest) a w :=
  wpList_next_ranges w hg it hop k K (plainElem P e) (fun x : Value => x) (Value.int qe) (fun key _ _ => ⟨key, rfl⟩) (fun v y hv => by obtain ⟨c, rfl, _⟩ := plainElem_int_inv he hv; exact ⟨c, rfl⟩)
    b r n D left cnt hit h (fun h0 _ => hDone h0) (fun x c kl y w' cnt' _ hlk hv hat hrg hlt hgr hsz hen => by
      obtain ⟨c', ec, rfl, _⟩ := plainElem_int_inv he hv
      cases ec
      exact hMore x c kl w' cnt' hlk hat hrg hlt hgr hsz hen)
end Go.Proofs.YtdpkigdfhfippaaGreatDoor

/- A ring in memory: its record, its map of rows, its heap of numbers. -/
import Derived.Test.YtkkoemcciemloaaS16A
import Derived.Test.YtkkoemcciemloaaS16H
import Derived.Laws.CopyOwn
namespace Go.Proofs.Ytkkoemcciemloaa
open Go.RowKit
open Go.Maps (Keyed)
open Go.MapKept Go.ChangeMaps


/-- What rows a ring of so much room may hold. -/
structure RingOk (room width : Nat) (L : List (Int × List Int)) : Prop where
  rising : RisingR L
  len : L.length ≤ room
  r1 : 1 ≤ room
  r2 : room ≤ 65536
  wd : width ≤ 262144
  rows : ∀ x ∈ L, x.2.length = width ∧ -9223372036854775808 ≤ x.1 ∧ x.1 ≤ 9223372036854775807
/-- Its memory but for what tells room and width. -/
structure RMem (w : World) (base r : Nat) (S : Nat → Prop) (L : List (Int × List Int)) (m : Nat) (v : Value) (h : List Int) (D : DataW Value) (V : Int → Value) : Prop where
  c2 : w.cell? ⟨r, 2, none⟩ = some (.map (some m))
  sm : S m
  mr : m ≠ r
  c3 : w.cell? ⟨r, 3, none⟩ = some v
  nums : OwnI .i64 2 w base v h
  vb : ∀ g, v.ownBlock = some g → S g ∧ g ≠ r ∧ g ≠ m
  perm : h.Perm (L.map (·.1))
  heap : HeapN h h.length
  map : w.ownsMap Try.prog 2 heldR m (Maps.size D) D
  size : Maps.size D = L.length
  has : ∀ j, Maps.has D (.int .i64 j) = hasJ L j
  at_ : ∀ x ∈ L, ∀ z, D.atKey (.int .i64 x.1) z = .held (V x.1)
  rows : ∀ x ∈ L, OwnI .i64 2 w base (V x.1) x.2
  blk : ∀ x ∈ L, ∀ g, (V x.1).ownBlock = some g → S g ∧ g ≠ r ∧ g ≠ m ∧ v.ownBlock ≠ some g
  apart : ∀ x ∈ L, ∀ y ∈ L, x.1 ≠ y.1 → Apart (V x.1) (V y.1)
/-- A ring in memory, in the blocks S. -/
structure RingAt (w : World) (base r : Nat) (S : Nat → Prop) (room width : Nat) (L : List (Int × List Int)) : Prop where
  ok : RingOk room width L
  lo : ∀ k, S k → base ≤ k
  hi : ∀ k, S k → k < w.heap.size
  sr : S r
  c0 : w.cell? ⟨r, 0, none⟩ = some (.int .i64 (room : Int))
  c1 : w.cell? ⟨r, 1, none⟩ = some (.int .i64 (width : Int))
  fr : ∀ o, w.frozen? ⟨r, o, none⟩ = false
  mem : ∃ m v h D V, RMem w base r S L m v h D V
theorem RMem.off {w w' : World} {base r : Nat} {S T : Nat → Prop} {L : List (Int × List Int)} {m : Nat} {v : Value} {h : List Int} {D : DataW Value} {V : Int → Value} (M : RMem w base r S L m v h D V) (hr : S r) (ho : Off T w w') (hn : ∀ k, S k → ¬ T k) : RMem w' base r S L m v h D V where
  c2 := ho.cell (hn r hr) M.c2
  sm := M.sm
  mr := M.mr
  c3 := ho.cell (hn r hr) M.c3
  nums := ho.own M.nums (fun g hg => hn g (M.vb g hg).1)
  vb := M.vb
  perm := M.perm
  heap := M.heap
  map := ho.map M.map (hn m M.sm)
  size := M.size
  has := M.has
  at_ := M.at_
  rows := fun x hx => ho.own (M.rows x hx) (fun g hg => hn g (M.blk x hx g hg).1)
  blk := M.blk
  apart := M.apart
theorem RingAt.off {w w' : World} {base r : Nat} {S T : Nat → Prop} {room width : Nat} {L : List (Int × List Int)} (R : RingAt w base r S room width L) (ho : Off T w w') (hn : ∀ k, S k → ¬ T k) : RingAt w' base r S room width L where
  ok := R.ok
  lo := R.lo
  hi := fun k hk => Nat.lt_of_lt_of_le (R.hi k hk) ho.size
  sr := R.sr
  c0 := ho.cell (hn r R.sr) R.c0
  c1 := ho.cell (hn r R.sr) R.c1
  fr := fun o => (ho.frozen (hn r R.sr) (R.hi r R.sr)).trans (R.fr o)
  mem := by
    obtain ⟨m, v, h, D, V, M⟩ := R.mem
    exact ⟨m, v, h, D, V, M.off R.sr ho hn⟩
theorem RingAt.below {w w' : World} {base r : Nat} {S : Nat → Prop} {room width : Nat} {L : List (Int × List Int)} (R : RingAt w base r S room width L) (hb : Below w.heap.size w w') : RingAt w' base r S room width L :=
  R.off (T := fun _ => False) (Off.of_below hb) (fun _ _ e => e)
theorem RingAt.drewN {w : World} {base r : Nat} {S : Nat → Prop} {room width : Nat} {L : List (Int × List Int)} (R : RingAt w base r S room width L) (n : Nat) : RingAt (w.drewN n) base r S room width L := R.below (bdN (Below.refl _ _) n)
theorem key64 {j : Int} (h1 : -9223372036854775808 ≤ j) (h2 : j ≤ 9223372036854775807) : keyOf Try.prog 2 (.int .i64 j) = some (.int .i64 j) := by
  have hw : (Lit.int .i64 j).wf = true := by simp [Lit.wf, IntKind.min, IntKind.max, IntKind.signed, IntKind.bits]; omega
  simp [keyOf, mapKey, Try.underlying2, hw]
theorem zeroSl (w : World) : (zeroValue 26).run Try.prog w = .ok (.slice none 0 0) w := by kernel_rfl
theorem keyed64 : Keyed Try.prog 2 := Go.Maps.int_keyed Try.underlying2
theorem infoSz64 : (Try.prog.info? 2).map (·.size) = some 1 := by kernel_rfl
/-- 'copy' of as many numbers as a row of the call's own has. -/
theorem run_copy_all {P : Program} {w : World} (dT sT ty : TypeId) (elem : TypeId) (hu : P.underlying dT = some (.slice elem)) (hsz : (P.info? elem).map (·.size) = some 1)
    (k : IntKind) (T : TypeId) (base : Nat) (v : Value) (n : Nat) (ys xs : List Int) (hown : OwnI k T w base v ys) (hy : ys.length = n) (sp : Option Addr) (sCap : Nat) (hx : xs.length = n) (hr : RowAt k w sp xs) :
    ∃ w', (Builtin.copy_ #[dT, sT] ty #[v, .slice sp n sCap]).run P w = .ok (.int .i64 (n : Int)) w' ∧ OwnI k T w' base v xs ∧ w.grownBy w' v.ownBlock := by
  subst hx
  by_cases h0 : xs.length = 0
  · have e1 := List.eq_nil_of_length_eq_zero h0
    have e2 : ys = [] := List.eq_nil_of_length_eq_zero (by omega)
    subst e1 e2
    obtain ⟨ad, cap, rfl, _⟩ := hown.form
    exact ⟨w, run_copy_none (P := P) w dT sT ty elem ad sp _ cap _ sCap hu hsz (by simp), hown, grown_refl _ _⟩
  · rcases hown.2 with ⟨rfl, h1⟩ | ⟨g, cap, cur, rfl, hB, hg, hn, hm, hcs, ht⟩
    · omega
    · obtain ⟨b, off, rfl, hc⟩ := hr.get (show 0 < xs.length by omega)
      have hcl : (xs.map (Value.int k)).length = xs.length := by rw [List.length_map]
      rw [Nat.mul_one] at hcs
      have hfit : 0 + (xs.map (Value.int k)).length ≤ cur.size := by rw [hcl]; omega
      have key := setRow_heap w g cur (((cur.toList.take 0) ++ ((xs.map (Value.int k)) ++ cur.toList.drop (0 + (xs.map (Value.int k)).length))).toArray) T _ hg
      have hrun := run_copy_row (P := P) w dT sT ty elem g 0 ys.length cap ⟨b, off, none⟩ xs.length sCap cur T (xs.map (Value.int k)) hu hsz hg (by rw [hcl, hy]; exact (Nat.min_self _).symm) (fun j u hj => by
        rw [List.getElem?_map] at hj
        have hlt : j < xs.length := by
          by_cases q : j < xs.length
          · exact q
          · rw [List.getElem?_eq_none (by omega)] at hj; cases hj
        rw [addr_add, hr.at hlt, ← hj, List.getD_eq_getElem?_getD, List.getElem?_eq_getElem hlt]
        rfl) hfit (fun u hu => by
        obtain ⟨y, _, rfl⟩ := List.mem_map.1 hu
        rfl)
      rw [hcl] at hrun key
      refine ⟨_, hrun, ⟨by rw [hcl, Nat.mul_one], .inr ⟨g, cap, _, by rw [hy], hB, key, by omega, hm, ?_, ?_⟩⟩, ?_⟩
      · simp [hcl]
        omega
      · rw [Nat.mul_one, List.toList_toArray, List.take_zero, List.nil_append]
        exact List.take_left' hcl
      · exact ⟨rfl, rfl, rfl, by simp [World.setRow], fun i hi hne => setRow_other w g i _ (fun e => hne (by rw [e]; rfl))⟩
/-- slices.Clone. -/
theorem clone64 (xs : List Int) (n : Nat) (hn : xs.length = n) (ad : Option Addr) (cap : Nat) (h1 : n ≤ 1048576) (hz : ad = none → n = 0 ∧ cap = 0) (w : World) (hr : RowAt .i64 w ad xs) :
    Calls Try.prog 28 #[.slice ad n cap] w fun e w' => ∃ v, e = .returned v ∧ OwnI .i64 2 w' w.heap.size v xs ∧ Below w.heap.size w w' := by
  have HR := hide hr
  have HN := hide hn
  obtain ⟨i0, hi, hz0, hz1, hz2⟩ := info_parts infoI64Q
  rcases ad with _ | ad
  · obtain ⟨rfl, rfl⟩ := hz rfl
    obtain rfl : xs = [] := List.eq_nil_of_length_eq_zero hn
    have q : ∀ w : World, (binOp .eql 26 (.slice none 0 0) (.slice none 0 0)).run Try.prog w = .ok (.bool true) w := fun w => Lib.run_eql_slice_nil w _ _ _ 0 0 0 0 Try.underlying26
    clear hr hn hz
    go_enter Try.func28, Try.ntmps28
    go_wp2
    go_ret
    exact ⟨_, rfl, OwnI.nil _ _ _ _, Below.refl _ _⟩
  · have q : ∀ w : World, (binOp .eql 26 (.slice (some ad) n cap) (.slice none 0 0)).run Try.prog w = .ok (.bool false) w := fun w => Lib.run_eql_slice_nil w _ _ _ n cap 0 0 Try.underlying26
    clear hr hn hz
    go_enter Try.func28, Try.ntmps28
    go_wp2_with (at_builtin; refine wpList_append_row .i64 _ rfl _ _ 26 rfl w.heap.size 2 i0 (.int .i64 0) 8 Try.underlying26 hi hz0 hz1 hz2 rfl (.slice (some ⟨w.heap.size, 0, none⟩) 0 0) [] rfl (own_lit0 _ _ _ _ (Nat.le_refl _)) (some ad) n cap xs rfl HN.out (HR.out.below (below1 _ _)) (fun e => by cases e) (by simp; unfold maxLen; omega) (by simp; omega) (by simp) ?_; intro v1 w2 own2 grow2 _; have bw2 := grown_lit (Below.refl _ _) grow2; rw [List.nil_append] at own2)
    go_ret
    exact ⟨v1, rfl, own2, bw2⟩
end Go.Proofs.Ytkkoemcciemloaa

/- Parts, joined. -/
import Derived.Test.YtlknopmpbkepjaaDoorJ05
import Derived.Test.YtlknopmpbkepjaaDoorJ04
import Derived.Test.YtlknopmpbkepjaaDoorJ06
import Derived.Test.YtlknopmpbkepjaaDoorJ10
import Derived.Shelf.Strconv.Itoa4
import Derived.Shelf.Strconv.AppendIntPublic10
import Derived.Shelf.Strings.BuilderK
import Derived.Lib.SmallJoins
import Derived.Lib.AppendStr
/- The library's calls that the recipes' texts use, by the shelf's contracts, laid here. -/
namespace Go.Proofs.YtlknopmpbkepjaaDoor
open Go.RowKit


def fmtL_ren : Go.Shelf.Ren := ⟨fun | 173 => 39 | 246 => 52 | 283 => 62 | 284 => 63 | 285 => 64 | 286 => 65 | 129 => 73 | 317 => 72 | 318 => 74 | 319 => 75 | 320 => 76 | 337 => 85 | 338 => 86 | n => n, fun | 2 => 2 | 3 => 3 | 9 => 9 | 4 => 4 | 171 => 108 | 0 => 0 | 53 => 98 | 37 => 62 | 5 => 5 | 173 => 111 | 212 => 125 | 51 => 126 | 20 => 20 | 213 => 127 | 46 => 115 | 232 => 141 | 233 => 142 | n => n, fun | 17 => 4 | 18 => 6 | 19 => 7 | n => n⟩
theorem fmtL : Go.Proofs.LaysM.n173 Tryd.prog fmtL_ren := {
  mixed := by kernel_rfl
  f129 := Tryd.func73.trans (congrArg some (by kernel_rfl))
  f173 := Tryd.func39.trans (congrArg some (by kernel_rfl))
  f246 := Tryd.func52.trans (congrArg some (by kernel_rfl))
  f283 := Tryd.func62.trans (congrArg some (by kernel_rfl))
  f284 := Tryd.func63.trans (congrArg some (by kernel_rfl))
  f285 := Tryd.func64.trans (congrArg some (by kernel_rfl))
  f286 := Tryd.func65.trans (congrArg some (by kernel_rfl))
  f317 := Tryd.func72.trans (congrArg some (by kernel_rfl))
  f318 := Tryd.func74.trans (congrArg some (by kernel_rfl))
  f319 := Tryd.func75.trans (congrArg some (by kernel_rfl))
  f320 := Tryd.func76.trans (congrArg some (by kernel_rfl))
  f337 := Tryd.func85.trans (congrArg some (by kernel_rfl))
  f338 := Tryd.func86.trans (congrArg some (by kernel_rfl))
  t0 := Tryd.underlying0
  a0 := Tryd.isAgg0
  z0 := Tryd.sizeOf0
  v0 := Tryd.zeroValue0
  t2 := Tryd.underlying2
  a2 := Tryd.isAgg2
  z2 := Tryd.sizeOf2
  v2 := Tryd.zeroValue2
  t3 := Tryd.underlying3
  a3 := Tryd.isAgg3
  z3 := Tryd.sizeOf3
  v3 := Tryd.zeroValue3
  t4 := Tryd.underlying4
  a4 := Tryd.isAgg4
  z4 := Tryd.sizeOf4
  v4 := Tryd.zeroValue4
  t5 := Tryd.underlying5
  a5 := Tryd.isAgg5
  z5 := Tryd.sizeOf5
  v5 := Tryd.zeroValue5
  t9 := Tryd.underlying9
  a9 := Tryd.isAgg9
  z9 := Tryd.sizeOf9
  v9 := Tryd.zeroValue9
  t20 := Tryd.underlying20
  a20 := Tryd.isAgg20
  z20 := Tryd.sizeOf20
  v20 := Tryd.zeroValue20
  t37 := Tryd.underlying62
  a37 := Tryd.isAgg62
  z37 := Tryd.sizeOf62
  v37 := Tryd.zeroValue62
  t46 := Tryd.underlying115
  a46 := Tryd.isAgg115
  z46 := Tryd.sizeOf115
  v46 := Tryd.zeroValue115
  t51 := Tryd.underlying126
  a51 := Tryd.isAgg126
  z51 := Tryd.sizeOf126
  v51 := Tryd.zeroValue126
  t53 := Tryd.underlying98
  a53 := Tryd.isAgg98
  z53 := Tryd.sizeOf98
  v53 := Tryd.zeroValue98
  t171 := Tryd.underlying108
  a171 := Tryd.isAgg108
  z171 := Tryd.sizeOf108
  v171 := Tryd.zeroValue108
  t173 := Tryd.underlying111
  a173 := Tryd.isAgg111
  z173 := Tryd.sizeOf111
  v173 := Tryd.zeroValue111
  t212 := Tryd.underlying125
  a212 := Tryd.isAgg125
  z212 := Tryd.sizeOf125
  v212 := Tryd.zeroValue125
  t213 := Tryd.underlying127
  a213 := Tryd.isAgg127
  z213 := Tryd.sizeOf127
  t232 := Tryd.underlying141
  a232 := Tryd.isAgg141
  z232 := Tryd.sizeOf141
  v232 := Tryd.zeroValue141
  t233 := Tryd.underlying142
  a233 := Tryd.isAgg142
  z233 := Tryd.sizeOf142
  v233 := Tryd.zeroValue142
  g17 := by kernel_rfl
  g18 := by kernel_rfl
  g19 := by kernel_rfl
  i0 := by kernel_rfl
  i2 := by kernel_rfl
  i3 := by kernel_rfl
  i4 := by kernel_rfl
  i5 := by kernel_rfl
  i9 := by kernel_rfl
  i20 := by kernel_rfl
  i37 := by kernel_rfl
  i46 := by kernel_rfl
  i51 := by kernel_rfl
  i53 := by kernel_rfl
  i171 := by kernel_rfl
  i173 := by kernel_rfl
  i212 := by kernel_rfl
  i232 := by kernel_rfl
  i233 := by kernel_rfl
  m17 := by kernel_rfl
  m18 := by kernel_rfl
  m19 := by kernel_rfl }
def apiL_ren : Go.Shelf.Ren := ⟨fun | 176 => 54 | 249 => 66 | 288 => 77 | 283 => 62 | 284 => 63 | 285 => 64 | 286 => 65 | 129 => 73 | 317 => 72 | 318 => 74 | 319 => 75 | 320 => 76 | 337 => 85 | 338 => 86 | n => n, fun | 37 => 62 | 2 => 2 | 3 => 3 | 53 => 98 | 4 => 4 | 9 => 9 | 171 => 108 | 0 => 0 | 173 => 111 | 212 => 125 | 51 => 126 | 5 => 5 | 20 => 20 | 213 => 127 | 46 => 115 | 232 => 141 | 233 => 142 | n => n, fun | 17 => 4 | 18 => 6 | 19 => 7 | n => n⟩
theorem apiL : Go.Proofs.LaysM.n176 Tryd.prog apiL_ren := {
  mixed := by kernel_rfl
  f129 := Tryd.func73.trans (congrArg some (by kernel_rfl))
  f176 := Tryd.func54.trans (congrArg some (by kernel_rfl))
  f249 := Tryd.func66.trans (congrArg some (by kernel_rfl))
  f283 := Tryd.func62.trans (congrArg some (by kernel_rfl))
  f284 := Tryd.func63.trans (congrArg some (by kernel_rfl))
  f285 := Tryd.func64.trans (congrArg some (by kernel_rfl))
  f286 := Tryd.func65.trans (congrArg some (by kernel_rfl))
  f288 := Tryd.func77.trans (congrArg some (by kernel_rfl))
  f317 := Tryd.func72.trans (congrArg some (by kernel_rfl))
  f318 := Tryd.func74.trans (congrArg some (by kernel_rfl))
  f319 := Tryd.func75.trans (congrArg some (by kernel_rfl))
  f320 := Tryd.func76.trans (congrArg some (by kernel_rfl))
  f337 := Tryd.func85.trans (congrArg some (by kernel_rfl))
  f338 := Tryd.func86.trans (congrArg some (by kernel_rfl))
  t0 := Tryd.underlying0
  a0 := Tryd.isAgg0
  z0 := Tryd.sizeOf0
  v0 := Tryd.zeroValue0
  t2 := Tryd.underlying2
  a2 := Tryd.isAgg2
  z2 := Tryd.sizeOf2
  v2 := Tryd.zeroValue2
  t3 := Tryd.underlying3
  a3 := Tryd.isAgg3
  z3 := Tryd.sizeOf3
  v3 := Tryd.zeroValue3
  t4 := Tryd.underlying4
  a4 := Tryd.isAgg4
  z4 := Tryd.sizeOf4
  v4 := Tryd.zeroValue4
  t5 := Tryd.underlying5
  a5 := Tryd.isAgg5
  z5 := Tryd.sizeOf5
  v5 := Tryd.zeroValue5
  t9 := Tryd.underlying9
  a9 := Tryd.isAgg9
  z9 := Tryd.sizeOf9
  v9 := Tryd.zeroValue9
  t20 := Tryd.underlying20
  a20 := Tryd.isAgg20
  z20 := Tryd.sizeOf20
  v20 := Tryd.zeroValue20
  t37 := Tryd.underlying62
  a37 := Tryd.isAgg62
  z37 := Tryd.sizeOf62
  v37 := Tryd.zeroValue62
  t46 := Tryd.underlying115
  a46 := Tryd.isAgg115
  z46 := Tryd.sizeOf115
  v46 := Tryd.zeroValue115
  t51 := Tryd.underlying126
  a51 := Tryd.isAgg126
  z51 := Tryd.sizeOf126
  v51 := Tryd.zeroValue126
  t53 := Tryd.underlying98
  a53 := Tryd.isAgg98
  z53 := Tryd.sizeOf98
  v53 := Tryd.zeroValue98
  t171 := Tryd.underlying108
  a171 := Tryd.isAgg108
  z171 := Tryd.sizeOf108
  v171 := Tryd.zeroValue108
  t173 := Tryd.underlying111
  a173 := Tryd.isAgg111
  z173 := Tryd.sizeOf111
  v173 := Tryd.zeroValue111
  t212 := Tryd.underlying125
  a212 := Tryd.isAgg125
  z212 := Tryd.sizeOf125
  v212 := Tryd.zeroValue125
  t213 := Tryd.underlying127
  a213 := Tryd.isAgg127
  z213 := Tryd.sizeOf127
  t232 := Tryd.underlying141
  a232 := Tryd.isAgg141
  z232 := Tryd.sizeOf141
  v232 := Tryd.zeroValue141
  t233 := Tryd.underlying142
  a233 := Tryd.isAgg142
  z233 := Tryd.sizeOf142
  v233 := Tryd.zeroValue142
  g17 := by kernel_rfl
  g18 := by kernel_rfl
  g19 := by kernel_rfl
  i0 := by kernel_rfl
  i2 := by kernel_rfl
  i3 := by kernel_rfl
  i4 := by kernel_rfl
  i5 := by kernel_rfl
  i9 := by kernel_rfl
  i20 := by kernel_rfl
  i37 := by kernel_rfl
  i46 := by kernel_rfl
  i51 := by kernel_rfl
  i53 := by kernel_rfl
  i171 := by kernel_rfl
  i173 := by kernel_rfl
  i212 := by kernel_rfl
  i232 := by kernel_rfl
  i233 := by kernel_rfl
  m17 := by kernel_rfl
  m18 := by kernel_rfl
  m19 := by kernel_rfl }
def wrstrL_ren : Go.Shelf.Ren := ⟨fun | 166 => 30 | 240 => 42 | 276 => 55 | n => n, fun | 70 => 61 | 9 => 9 | 3 => 3 | 75 => 66 | 0 => 0 | 72 => 64 | 37 => 62 | 4 => 4 | 164 => 100 | 80 => 55 | 5 => 5 | 20 => 20 | n => n, fun | n => n⟩
theorem wrstrL : Go.Proofs.Lays.n166 Tryd.prog wrstrL_ren := {
  mixed := by kernel_rfl
  f166 := Tryd.func30.trans (congrArg some (by kernel_rfl))
  f240 := Tryd.func42.trans (congrArg some (by kernel_rfl))
  f276 := Tryd.func55.trans (congrArg some (by kernel_rfl))
  t0 := Tryd.underlying0
  a0 := Tryd.isAgg0
  z0 := Tryd.sizeOf0
  v0 := Tryd.zeroValue0
  t3 := Tryd.underlying3
  a3 := Tryd.isAgg3
  z3 := Tryd.sizeOf3
  v3 := Tryd.zeroValue3
  t4 := Tryd.underlying4
  a4 := Tryd.isAgg4
  z4 := Tryd.sizeOf4
  v4 := Tryd.zeroValue4
  t9 := Tryd.underlying9
  a9 := Tryd.isAgg9
  z9 := Tryd.sizeOf9
  v9 := Tryd.zeroValue9
  t20 := Tryd.underlying20
  a20 := Tryd.isAgg20
  z20 := Tryd.sizeOf20
  v20 := Tryd.zeroValue20
  t37 := Tryd.underlying62
  a37 := Tryd.isAgg62
  z37 := Tryd.sizeOf62
  v37 := Tryd.zeroValue62
  t70 := Tryd.underlying61
  a70 := Tryd.isAgg61
  z70 := Tryd.sizeOf61
  v70 := Tryd.zeroValue61
  t72 := Tryd.underlying64
  a72 := Tryd.isAgg64
  z72 := Tryd.sizeOf64
  v72 := Tryd.zeroValue64
  t75 := Tryd.underlying66
  a75 := Tryd.isAgg66
  z75 := Tryd.sizeOf66
  v75 := Tryd.zeroValue66
  t164 := Tryd.underlying100
  a164 := Tryd.isAgg100
  z164 := Tryd.sizeOf100
  v164 := Tryd.zeroValue100 }
def bstrL_ren : Go.Shelf.Ren := ⟨fun | 169 => 31 | n => n, fun | 70 => 61 | 9 => 9 | 0 => 0 | 72 => 64 | 37 => 62 | 127 => 85 | 3 => 3 | 5 => 5 | n => n, fun | n => n⟩
theorem bstrL : Go.Proofs.Lays.n169 Tryd.prog bstrL_ren := {
  mixed := by kernel_rfl
  f169 := Tryd.func31.trans (congrArg some (by kernel_rfl))
  t0 := Tryd.underlying0
  a0 := Tryd.isAgg0
  z0 := Tryd.sizeOf0
  v0 := Tryd.zeroValue0
  t3 := Tryd.underlying3
  a3 := Tryd.isAgg3
  z3 := Tryd.sizeOf3
  v3 := Tryd.zeroValue3
  t9 := Tryd.underlying9
  a9 := Tryd.isAgg9
  z9 := Tryd.sizeOf9
  v9 := Tryd.zeroValue9
  t37 := Tryd.underlying62
  a37 := Tryd.isAgg62
  z37 := Tryd.sizeOf62
  v37 := Tryd.zeroValue62
  t70 := Tryd.underlying61
  a70 := Tryd.isAgg61
  z70 := Tryd.sizeOf61
  v70 := Tryd.zeroValue61
  t72 := Tryd.underlying64
  a72 := Tryd.isAgg64
  z72 := Tryd.sizeOf64
  v72 := Tryd.zeroValue64
  t127 := Tryd.underlying85
  a127 := Tryd.isAgg85
  z127 := Tryd.sizeOf85
  v127 := Tryd.zeroValue85 }
theorem txt_itoa (n : Int) : (⟨(Go.Lib.itoa n).toArray⟩ : ByteArray) = txt (intF n) := txt_of (itoa_byt n)
theorem fmt_any (n : Int) (hn : I64P n) (w : World) (hk : Pow10 w) :
    Calls Tryd.prog 39 #[.int .i64 n, .int .i64 10] w fun e w' => e = .returned (.string (txt (intF n))) ∧ Below w.heap.size w w' := by
  refine (Go.Proofs.Any.strconv_FormatInt_10 fmtL n hn.1 hn.2 w hk).mono ?_
  rintro e w' ⟨rfl, k, os, rfl⟩
  exact ⟨by rw [txt_itoa], below_grow w k os⟩
theorem ito_any (n : Int) (hn : I64P n) (w : World) (hk : Pow10 w) :
    Calls Tryd.prog 40 #[.int .i64 n] w fun e w' => e = .returned (.string (txt (intF n))) ∧ Below w.heap.size w w' := by
  refine (Go.Proofs.Any.strconv_Itoa itoaL n hn.1 hn.2 w hk).mono ?_
  rintro e w' ⟨rfl, k, os, rfl⟩
  exact ⟨by rw [txt_itoa], below_grow w k os⟩
theorem itoa_cells (n : Int) : Go.Lib.byteCells (Go.Lib.itoa n) = (intF n).map (Value.int .u8) := by
  rw [← itoa_byt]
  unfold byt Go.Lib.byteCells
  rw [List.map_map]
  rfl
theorem itoa_len (n : Int) : (Go.Lib.itoa n).length = (intF n).length := by
  rw [← itoa_byt, byt_len]
  rfl
theorem u8_cells {xs : List Int} (h : Byts xs) : Go.Lib.byteCells (txt xs).data.toList = xs.map (Value.int .u8) := by
  conv => rhs; rw [← byt_txt h]
  unfold byt Go.Lib.byteCells
  rw [List.map_map]
  rfl
/-- AppendInt onto a row that the call made. -/
theorem api_any {B : Nat} {v : Value} {xs : List Int} (n : Int) (hn : I64P n) (w0 w : World) (hk : Pow10 w0) (hB : B = w0.heap.size) (hb : Below B w0 w) (ho : OwnI .u8 5 w B v xs) (hl : xs.length ≤ 1000000000) :
    Calls Tryd.prog 54 #[v, .int .i64 n, .int .i64 10] w fun e w' => ∃ v', e = .returned v' ∧ OwnI .u8 5 w' B v' (xs ++ intF n) ∧ Below B w w' := by
  subst hB
  refine (Go.Proofs.Any.strconv_AppendInt_10 apiL w0.heap.size xs.length n hn.1 hn.2 v (xs.map (Value.int .u8)) w ho hb.size (by omega) ((Go.Lib.tabBelow_of_tabIs hk).on hb)).mono ?_
  rintro e w' ⟨v', rfl, h1, h2, _⟩
  refine ⟨v', rfl, ?_, h2⟩
  unfold OwnI
  rw [List.length_append, List.map_append, ← itoa_cells, ← itoa_len]
  exact h1
theorem builderX : Go.Proofs.Builder.Extra Tryd.prog wrstrL_ren := {
  sizeBuilder := by kernel_rfl
  liesBuilder := by kernel_rfl
  t5 := Tryd.underlying5
  a5 := Tryd.isAgg5
  z5 := Tryd.sizeOf5
  v5 := Tryd.zeroValue5
  infoByte := by kernel_rfl
  cellsByte := by kernel_rfl
  sizeByte := by kernel_rfl
  neB5 := by decide }
theorem builderY : Go.Proofs.Builder.Extra Tryd.prog bstrL_ren := {
  sizeBuilder := by kernel_rfl
  liesBuilder := by kernel_rfl
  t5 := Tryd.underlying5
  a5 := Tryd.isAgg5
  z5 := Tryd.sizeOf5
  v5 := Tryd.zeroValue5
  infoByte := by kernel_rfl
  cellsByte := by kernel_rfl
  sizeByte := by kernel_rfl
  neB5 := by decide }
end Go.Proofs.YtlknopmpbkepjaaDoor

/- Heads: the law on any bytes, out of what the program's Parse answers. -/
namespace Go.Proofs.YtlknopmpbkepjaaDoor
open Go.RowKit


theorem infoU8 : (Tryd.prog.info? 5).map (fun i => (i.zero, i.size, i.bytes)) = some (some (.int .u8 0), 1, 1) := by kernel_rfl
/-- 'string(b)'. -/
theorem conv_run {w : World} {xs : List Int} {n : Nat} {ad : Option Addr} (cap : Nat) (hn : xs.length = n) (hr : RowAt .u8 w ad xs) : (convert 62 9 (.slice ad n cap)).run Tryd.prog w = .ok (.string (strOfNums xs)) w := by
  by_cases h0 : xs = []
  · subst h0
    subst hn
    rcases ad with _ | a
    · exact run_convert_bytes_nil (P := Tryd.prog) w 62 5 Tryd.underlying62 Tryd.underlying5 0 cap 9 Tryd.underlying9
    · rw [run_convert_bytes_string w 62 9 5 (some a) _ cap Tryd.underlying62 Tryd.underlying5 Tryd.underlying9]
      exact run_bytesToString w a 0 cap [] (by simp [loadCells, loadCellsFrom])
  · rcases hr with h | ⟨b, off, rfl, hc⟩
    · exact absurd h h0
    · exact run_convert_bytes_arg (P := Tryd.prog) w 62 5 Tryd.underlying62 Tryd.underlying5 b off n cap xs hn (fun i hi => hc i (by omega)) 9 Tryd.underlying9
end Go.Proofs.YtlknopmpbkepjaaDoor

/- Operations as texts: the program's numbers with commas between. -/
namespace Go.Proofs.YtlknopmpbkepjaaDoor
open Go.RowKit


theorem below_own {w w2 wr : World} {T : TypeId} {v : Value} {xs : List Int} (hb : Below w.heap.size w wr) (ho : OwnI .u8 T wr w.heap.size v xs) (hg : wr.grownBy w2 v.ownBlock) : Below w.heap.size w w2 :=
  hb.grown hg hb.size (fun g h => (World.ownsRow.lt ho g h).1)
set_option maxHeartbeats 2000000 in
set_option maxRecDepth 100000 in
theorem list_any (xs : List Int) (n : Nat) (hn : xs.length = n) (h1 : n ≤ 1000000) (hx : ∀ x ∈ xs, I64P x) (ad : Option Addr) (cap : Nat) (w : World) (hk : Pow10 w) (hr : RowAt .i64 w ad xs) :
    Calls Tryd.prog 41 #[.slice ad n cap] w fun e w' => e = .returned (.string (txt (rowB xs))) ∧ Below w.heap.size w w' := by
  have HR := hide hr
  have HN := hide hn
  have HX := hide hx
  have HK := hide hk
  obtain ⟨i0, hi, hz0, hz1, hz2⟩ := info_parts infoU8
  clear hr hn hx hk
  go_enter Tryd.func41, Tryd.ntmps41
  go_wp2
  go_loopw [3, 8] (fun v i wr => ∃ k : Nat, k ≤ n ∧ i = .int .i64 (k : Int) ∧ Hid (OwnI .u8 5 wr w.heap.size v (rowB (xs.take k))) ∧ Below w.heap.size w wr) (fun _ i _ => n - (intOf i).toNat)
  case atStart => exact ⟨0, by omega, rfl, hide (by rw [List.take_zero]; exact OwnI.nil _ _ _ _), Below.refl _ _⟩
  case round =>
    obtain ⟨k, hk, rfl, HO, hb⟩ := hrel
    have HB := hide hb
    have hl : (rowB (xs.take k)).length ≤ 21 * k := by
      have := rowB_len (xs := xs.take k) (fun x hx => HX.out x (List.mem_of_mem_take hx))
      rw [List.length_take] at this
      omega
    by_cases hlt : k < n
    · obtain ⟨b, off, rfl, hc⟩ := (HR.out.below hb).get (show k < xs.length by rw [HN.out]; exact hlt)
      have hkx : k < xs.length := by rw [HN.out]; exact hlt
      have hxk : I64P (xs.getD k 0) := HX.out _ (by rw [List.getD_eq_getElem?_getD, List.getElem?_eq_getElem hkx]; exact List.getElem_mem hkx)
      have HZ := hide (show k = 0 → rowB (xs.take k) ++ intF (xs.getD k 0) = rowB (xs.take (k + 1)) from fun e => by
        rw [take_row hkx, e]
        rfl)
      have HM := hide (show k ≠ 0 → (rowB (xs.take k) ++ [44]) ++ intF (xs.getD k 0) = rowB (xs.take (k + 1)) from fun e => by
        have hne : xs.take k ≠ [] := fun q => by
          have hl : 0 < (xs.take k).length := by rw [List.length_take]; omega
          rw [q] at hl
          cases hl
        rw [take_row hkx, rowB_more hne, List.append_assoc]
        rfl)
      have HXK := hide hxk
      clear hxk hb
      generalize xs.getD k 0 = x at *
      obtain ⟨t', ht'⟩ : ∃ t', rowB (xs.take (k + 1)) = t' := ⟨_, rfl⟩
      rw [ht'] at HZ HM
      have HT := hide ht'
      clear ht'
      generalize rowB (xs.take k) = t at *
      by_cases hk0 : k = 0
      · subst hk0
        have hz := HZ.out rfl
        replace hc : wr.cell? ⟨b, off, none⟩ = some (.int .i64 x) := hc
        clear HM HZ
        go_wp2_with (go_at_call 54; (with_reducible refine (api_any x HXK.out w _ HK.out rfl HB.out HO.out (by omega)).mono ?_); rintro e w3 ⟨v3, rfl, o3, b3⟩)
        have O3 := hide (hz ▸ o3)
        have B3 := HB.out.trans b3
        clear o3 b3
        go_roundw
        case rel => exact ⟨0 + 1, by omega, by go_num, by rw [HT.out]; exact O3, B3⟩
        case measure => simp [intOf]; omega
      · have hm := HM.out hk0
        have hk1 : 0 < (k : Int) := by omega
        clear HM HZ
        go_wp2_with (first
          | (at_builtin; refine Go.Lib.wpList_append_own_string _ rfl _ _ 62 9 rfl w.heap.size 5 i0 Tryd.underlying62 Tryd.underlying9 hi hz0 hz1 hz2 _ _ _ rfl HO.out ⟨#[44]⟩ rfl (by unfold maxLen; show _ + 1 ≤ _; omega) (by show _ + 1 ≤ _; omega) HB.out.size ?_; intro v2 w2 own2 grow2 _; have O2 := hide (OwnI.append (x := 44) own2); have B2 := hide (below_own HB.out HO.out grow2))
          | (go_at_call 54; (with_reducible refine (api_any x HXK.out w _ HK.out rfl B2.out O2.out (by rw [List.length_append, List.length_singleton]; omega)).mono ?_); rintro e w3 ⟨v3, rfl, o3, b3⟩))
        have O3 := hide (hm ▸ o3)
        have B3 := B2.out.trans b3
        clear o3 b3 own2 grow2
        go_roundw
        case rel => exact ⟨k + 1, by omega, by go_num, by rw [HT.out]; exact O3, B3⟩
        case measure => simp [intOf]; omega
    · obtain rfl : k = n := by omega
      have he : xs.take k = xs := List.take_of_length_le (by rw [HN.out]; exact Nat.le_refl _)
      rw [he] at HO
      obtain ⟨ad', cap', rfl, r', _⟩ := HO.out.formn rfl
      have hcv := conv_run cap' rfl r'
      obtain ⟨t, ht⟩ : ∃ t, txt (rowB xs) = t := ⟨_, rfl⟩
      rw [show strOfNums (rowB xs) = t from ht] at hcv
      have HT := hide ht
      clear hb r' HO ht he
      generalize (rowB xs).length = m at *
      go_wp2
      go_ret
      exact ⟨by rw [HT.out]; rfl, HB.out⟩
end Go.Proofs.YtlknopmpbkepjaaDoor

/- Operations as texts: the program's Word. -/
namespace Go.Proofs.YtlknopmpbkepjaaDoor
open Go.RowKit


set_option maxRecDepth 1000000 in
theorem sgn_conv {k : Int} (h : 0 ≤ k ∧ k ≤ 3) : ∀ w : World, (convert 21 9 (.int .i32 (runeB k))).run Tryd.prog w = .ok (.string (txt (sgnB k))) w := by
  rcases (show k = 0 ∨ k = 1 ∨ k = 2 ∨ k = 3 by omega) with rfl | rfl | rfl | rfl
  · exact fun _ => by kernel_rfl
  · exact fun _ => by kernel_rfl
  · exact fun _ => by kernel_rfl
  · exact fun _ => by kernel_rfl
set_option maxHeartbeats 4000000 in
set_option maxRecDepth 100000 in
theorem body_one (o : Opr) (ax : Option Addr) (cx : Nat) (ay : Option Addr) (cy : Nat) (w : World) (hF : FitW o) (k3 : o.kd = 0 ∨ o.kd = 1) (hP : Pow10 w) :
    Calls Tryd.prog 27 #[opV o ax cx ay cy] w fun e w' => e = .returned (.string (txt (bodyB o))) ∧ Below w.heap.size w w' := by
  have CD0 := fun w' (b : Below w.heap.size w w') => fmt_any o.sg (hF.1 _ (by simp)) w' (pow10_below w w' hP b)
  have CD1 := fun w' (b : Below w.heap.size w w') => ito_any o.rd (hF.1 _ (by simp)) w' (pow10_below w w' hP b)
  have hb0 : o.kd = 0 → bodyB o = intF o.sg := fun e => if_pos e
  have hb1 : o.kd = 1 → bodyB o = intF o.rd := fun e => (if_neg (by omega)).trans (if_pos e)
  unfold opV
  generalize bodyB o = BD at *
  obtain ⟨kd, bo, sg, rd, xs, ys, fl, wd, ht⟩ := o
  simp only at *
  clear hF hP
  generalize xs.length = nx at *
  generalize ys.length = ny at *
  rcases k3 with rfl | rfl
  · have hB := hb0 rfl
    subst hB
    clear hb0 hb1 CD1
    generalize txt (intF sg) = D at *
    go_enter Tryd.func27, Tryd.ntmps27
    go_wp2_with (go_at_call 39; (with_reducible refine (CD0 _ (below1 _ _)).mono ?_); rintro e w2 ⟨rfl, b2⟩)
    exact bodyPost_ret (v := .string D) (by simp [results, Tryd.results27, go_sem]) rfl ⟨rfl, bt (below1 _ _) b2⟩
  · have hB := hb1 rfl
    subst hB
    clear hb0 hb1 CD0
    generalize txt (intF rd) = D at *
    go_enter Tryd.func27, Tryd.ntmps27
    go_wp2_with (go_at_call 40; (with_reducible refine (CD1 _ (below1 _ _)).mono ?_); rintro e w2 ⟨rfl, b2⟩)
    exact bodyPost_ret (v := .string D) (by simp [results, Tryd.results27, go_sem]) rfl ⟨rfl, bt (below1 _ _) b2⟩
set_option maxHeartbeats 4000000 in
set_option maxRecDepth 100000 in
theorem body_two (o : Opr) (ax : Option Addr) (cx : Nat) (ay : Option Addr) (cy : Nat) (w : World) (hF : FitW o) (hA : OpAt w o ax cx ay cy) (l1 : o.xs.length ≤ 1000) (l2 : o.ys.length ≤ 1000) (k3 : o.kd = 2) (hP : Pow10 w) :
    Calls Tryd.prog 27 #[opV o ax cx ay cy] w fun e w' => e = .returned (.string (txt (bodyB o))) ∧ Below w.heap.size w w' := by
  have CX := fun w' (b : Below w.heap.size w w') => list_any o.xs o.xs.length rfl (by omega) hF.2.1 ax cx w' (pow10_below w w' hP b) (hA.1.below b)
  have CY := fun w' (b : Below w.heap.size w w') => list_any o.ys o.ys.length rfl (by omega) hF.2.2 ay cy w' (pow10_below w w' hP b) (hA.2.1.below b)
  have s3 : (txt (rowB o.xs)).size ≤ 21000 := by rw [txt_size (byts_row _)]; have := rowB_len hF.2.1; omega
  have s4 : (txt (rowB o.ys)).size ≤ 21000 := by rw [txt_size (byts_row _)]; have := rowB_len hF.2.2; omega
  have HW := hide (show txt (rowB o.xs) ++ ⟨#[195, 151]⟩ ++ txt (rowB o.ys) = txt (bodyB o) by
    rw [show (⟨#[195, 151]⟩ : ByteArray) = txt mulB from rfl, txt_app (byts_row _) byts_mul, txt_app (byts_app (byts_row _) byts_mul) (byts_row _), List.append_assoc, show bodyB o = rowB o.xs ++ (mulB ++ rowB o.ys) from (if_neg (by omega)).trans ((if_neg (by omega)).trans (if_pos k3))])
  unfold opV
  generalize txt (bodyB o) = T at *
  obtain ⟨kd, bo, sg, rd, xs, ys, fl, wd, ht⟩ := o
  simp only at *
  subst k3
  clear hF hA hP
  generalize txt (rowB xs) = X at *
  generalize txt (rowB ys) = Y at *
  generalize xs.length = nx at *
  generalize ys.length = ny at *
  have HP := hide (P9.new w 30 2 bo sg rd (.slice ax nx cx) (.slice ay ny cy) fl wd ht)
  go_enter Tryd.func27, Tryd.ntmps27
  go_upto_region 7 with fail
  obtain ⟨W0, hW0⟩ : ∃ W0, w.alloc (.cells #[.int .i64 2, .int .i64 bo, .int .i64 sg, .int .i64 rd, .slice ax nx cx, .slice ay ny cy, .int .i64 fl, .int .i64 wd, .int .i64 ht] 30) = W0 := ⟨_, rfl⟩
  rw [hW0] at HP
  have HB0 := hide (show Below w.heap.size w W0 by rw [← hW0]; exact below1 _ _)
  simp only [hW0]
  clear hW0
  obtain ⟨g0, g1, g2, g3, g4, g5, g6, g7, g8⟩ := HP.out
  have n1 : ¬ (9223372036854775807 < X.size + 2) := by omega
  have n2 : ¬ (9223372036854775807 < X.size + 2 + Y.size) := by omega
  go_region_held3 (fun w' => w'.cell? ⟨w.heap.size, 4, none⟩ = some (.slice ax nx cx) ∧ w'.cell? ⟨w.heap.size, 5, none⟩ = some (.slice ay ny cy)) (first | assumption | go_keep)
    (first
      | (go_at_call 41; (with_reducible refine (CX _ (bd HB0.out)).mono ?_); rintro e w2 ⟨rfl, b2⟩; have B2 := hide (bt (bd (Below.refl W0.heap.size W0)) b2); have y2 := And.intro (cb B2.out (cell_ltL g0) g4) (cb B2.out (cell_ltL g0) g5))
      | (go_at_call 41; (with_reducible refine (CY _ (bt HB0.out B2.out)).mono ?_); rintro e w4 ⟨rfl, b4⟩; have B4 := hide (bt B2.out b4); have y4 := And.intro (cb B4.out (cell_ltL g0) g4) (cb B4.out (cell_ltL g0) g5)))
  all_goals
    have BZ := hide (bt HB0.out B4.out)
    clear b2 b4 y2 y4 CX CY g0 g1 g2 g3 g4 g5 g6 g7 g8
    go_wp2
    exact bodyPost_ret (v := .string (X ++ ⟨#[195, 151]⟩ ++ Y)) (by simp [results, Tryd.results27, go_sem]) rfl ⟨by rw [HW.out], BZ.out⟩
set_option maxHeartbeats 4000000 in
set_option maxRecDepth 100000 in
theorem body_three (o : Opr) (ax : Option Addr) (cx : Nat) (ay : Option Addr) (cy : Nat) (w : World) (hF : FitW o) (k3 : o.kd = 3) (hP : Pow10 w) (hK : Kinds w) :
    Calls Tryd.prog 27 #[opV o ax cx ay cy] w fun e w' => e = .returned (.string (txt (bodyB o))) ∧ Below w.heap.size w w' := by
  have CF := fun w' (b : Below w.heap.size w w') => fname_any o.fl w' (kinds_below hK b)
  have CX := fun w' (b : Below w.heap.size w w') => ito_any o.wd (hF.1 _ (by simp)) w' (pow10_below w w' hP b)
  have CY := fun w' (b : Below w.heap.size w w') => ito_any o.ht (hF.1 _ (by simp)) w' (pow10_below w w' hP b)
  have s3 : (txt (intF o.wd)).size ≤ 20 := by rw [txt_size (byts_int _)]; exact intF_20 (hF.1 _ (by simp))
  have s4 : (txt (intF o.ht)).size ≤ 20 := by rw [txt_size (byts_int _)]; exact intF_20 (hF.1 _ (by simp))
  have s6 : (txt (filtB o.fl)).size ≤ 7 := by rw [txt_size (byts_filt _)]; exact filt_len _
  have HW := hide (show txt (intF o.wd) ++ ⟨#[195, 151]⟩ ++ txt (intF o.ht) ++ ⟨#[44]⟩ ++ txt (filtB o.fl) = txt (bodyB o) by
    rw [show (⟨#[44]⟩ : ByteArray) = txt [44] from rfl, show (⟨#[195, 151]⟩ : ByteArray) = txt mulB from rfl, txt_app (byts_int _) byts_mul, txt_app (byts_app (byts_int _) byts_mul) (byts_int _), txt_app (byts_app (byts_app (byts_int _) byts_mul) (byts_int _)) (byts_one (by decide) (by decide)), txt_app (byts_app (byts_app (byts_app (byts_int _) byts_mul) (byts_int _)) (byts_one (by decide) (by decide))) (byts_filt _),
      show bodyB o = intF o.wd ++ (mulB ++ (intF o.ht ++ 44 :: filtB o.fl)) from (if_neg (by omega)).trans ((if_neg (by omega)).trans (if_neg (by omega)))]
    simp)
  unfold opV
  generalize txt (bodyB o) = T at *
  obtain ⟨kd, bo, sg, rd, xs, ys, fl, wd, ht⟩ := o
  simp only at *
  subst k3
  clear hF hP hK
  generalize txt (filtB fl) = F at *
  generalize txt (intF wd) = X at *
  generalize txt (intF ht) = Y at *
  generalize xs.length = nx at *
  generalize ys.length = ny at *
  have HP := hide (P9.new w 30 3 bo sg rd (.slice ax nx cx) (.slice ay ny cy) fl wd ht)
  go_enter Tryd.func27, Tryd.ntmps27
  go_upto_region 8 with fail
  obtain ⟨W0, hW0⟩ : ∃ W0, w.alloc (.cells #[.int .i64 3, .int .i64 bo, .int .i64 sg, .int .i64 rd, .slice ax nx cx, .slice ay ny cy, .int .i64 fl, .int .i64 wd, .int .i64 ht] 30) = W0 := ⟨_, rfl⟩
  rw [hW0] at HP
  have HB0 := hide (show Below w.heap.size w W0 by rw [← hW0]; exact below1 _ _)
  simp only [hW0]
  clear hW0
  obtain ⟨g0, g1, g2, g3, g4, g5, g6, g7, g8⟩ := HP.out
  have n1 : ¬ (9223372036854775807 < X.size + 2) := by omega
  have n2 : ¬ (9223372036854775807 < X.size + 2 + Y.size) := by omega
  have n3 : ¬ (9223372036854775807 < X.size + 2 + Y.size + 1) := by omega
  have n4 : ¬ (9223372036854775807 < X.size + 2 + Y.size + 1 + F.size) := by omega
  go_region_held3 (fun w' => w'.cell? ⟨w.heap.size, 6, none⟩ = some (.int .i64 fl) ∧ w'.cell? ⟨w.heap.size, 7, none⟩ = some (.int .i64 wd) ∧ w'.cell? ⟨w.heap.size, 8, none⟩ = some (.int .i64 ht)) (first | assumption | go_keep)
    (first
      | (go_at_call 40; (with_reducible refine (CX _ (bd HB0.out)).mono ?_); rintro e w2 ⟨rfl, b2⟩; have B2 := hide (bt (bd (Below.refl W0.heap.size W0)) b2); have y2 := And.intro (cb B2.out (cell_ltL g0) g6) (And.intro (cb B2.out (cell_ltL g0) g7) (cb B2.out (cell_ltL g0) g8)))
      | (go_at_call 40; (with_reducible refine (CY _ (bt HB0.out B2.out)).mono ?_); rintro e w4 ⟨rfl, b4⟩; have B4 := hide (bt B2.out b4); have y4 := And.intro (cb B4.out (cell_ltL g0) g6) (And.intro (cb B4.out (cell_ltL g0) g7) (cb B4.out (cell_ltL g0) g8)))
      | (go_at_call 26; (with_reducible refine (CF _ (bt HB0.out B4.out)).mono ?_); rintro e w3 ⟨rfl, rfl⟩))
  all_goals
    have BZ := hide (bt HB0.out B4.out)
    clear b2 b4 y2 y4 CX CY g0 g1 g2 g3 g4 g5 g6 g7 g8
    go_wp2
    exact bodyPost_ret (v := .string (X ++ ⟨#[195, 151]⟩ ++ Y ++ ⟨#[44]⟩ ++ F)) (by simp [results, Tryd.results27, go_sem]) rfl ⟨by rw [HW.out], BZ.out⟩
theorem body_any (o : Opr) (ax : Option Addr) (cx : Nat) (ay : Option Addr) (cy : Nat) (w : World) (hk : 0 ≤ o.kd ∧ o.kd ≤ 3) (hF : FitW o) (hA : OpAt w o ax cx ay cy) (l1 : o.xs.length ≤ 1000) (l2 : o.ys.length ≤ 1000) (hP : Pow10 w) (hK : Kinds w) :
    Calls Tryd.prog 27 #[opV o ax cx ay cy] w fun e w' => e = .returned (.string (txt (bodyB o))) ∧ Below w.heap.size w w' := by
  rcases (show o.kd = 0 ∨ o.kd = 1 ∨ o.kd = 2 ∨ o.kd = 3 by omega) with k | k | k | k
  · exact body_one o ax cx ay cy w hF (.inl k) hP
  · exact body_one o ax cx ay cy w hF (.inr k) hP
  · exact body_two o ax cx ay cy w hF hA l1 l2 k hP
  · exact body_three o ax cx ay cy w hF k hP hK
end Go.Proofs.YtlknopmpbkepjaaDoor

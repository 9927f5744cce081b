/- Parts, joined. -/
import Derived.Test.YtlknopmpbkepjaaDoorJ06
import Derived.Test.YtlknopmpbkepjaaDoorJ08
import Derived.Test.YtlknopmpbkepjaaDoorJ10
import Derived.Test.YtlknopmpbkepjaaDoorJ04
import Derived.Test.YtlknopmpbkepjaaDoorJ14
import Derived.Test.YtlknopmpbkepjaaDoorJ11
import Derived.Shelf.Strings.Cut
import Derived.Shelf.Unicode.DecodeAny
import Derived.Shelf.Strconv.ParseIntPublic10
import Derived.Shelf.Strconv.AtoiAll
/- Operations as texts: the document's One: its loops; operations of each kind. -/
namespace Go.Proofs.YtlknopmpbkepjaaDoor
open Go.RowKit


/-- Numbers, or none: what is known ahead. -/
theorem nums_or (s : ByteArray) (hs : s.size ≤ 1000000) :
    (∃ xs, (∀ x ∈ xs, I64P x) ∧ byt s = rowB xs ∧ ∀ w, Calls Tryd.prog 50 #[.string s] w fun e w' => (∃ ad cap, e = .returned (.tuple #[.slice ad xs.length cap, .bool true]) ∧ RowNew w' w.heap.size ad xs ∧ (ad = none → cap = 0)) ∧ Below w.heap.size w w') ∨
    ((∀ xs, (∀ x ∈ xs, I64P x) → byt s ≠ rowB xs) ∧ ∀ w, Calls Tryd.prog 50 #[.string s] w fun e w' => e = .returned (.tuple #[.slice none 0 0, .bool false]) ∧ Below w.heap.size w w') := by
  by_cases h : ∃ xs, (∀ x ∈ xs, I64P x) ∧ byt s = rowB xs
  · obtain ⟨xs, hx, hb⟩ := h
    refine .inl ⟨xs, hx, hb, fun w => (dnums_any s hs w).mono fun e w' ⟨hA, hB⟩ => ⟨?_, hB⟩⟩
    rcases hA with ⟨v, ys, he, hb2, _, ho⟩ | ⟨_, hn⟩
    · obtain rfl := rowB_inj (hb.symm.trans hb2)
      obtain ⟨ad, cap, rfl, hr, hz⟩ := own_new ho rfl
      exact ⟨ad, cap, he, hr, hz⟩
    · exact absurd hb (hn xs hx)
  · have hn : ∀ xs, (∀ x ∈ xs, I64P x) → byt s ≠ rowB xs := fun xs hx e => h ⟨xs, hx, e⟩
    refine .inr ⟨hn, fun w => (dnums_any s hs w).mono fun e w' ⟨hA, hB⟩ => ⟨?_, hB⟩⟩
    rcases hA with ⟨v, ys, _, hb2, hy, _⟩ | ⟨he, _⟩
    · exact absurd hb2 (hn ys hy)
    · exact he
/-- An answer of one operation. -/
def OneAns (f : List Int → Option Opr) (s : ByteArray) (B : Nat) (e : Ending) (w' : World) : Prop :=
  (∃ o ax cx ay cy, f (byt s) = some o ∧ e = .returned (.tuple #[opV o ax cx ay cy, .bool true]) ∧ RowNew w' B ax o.xs ∧ RowNew w' B ay o.ys ∧ (ax = none → cx = 0) ∧ (ay = none → cy = 0)) ∨
  (f (byt s) = none ∧ ∃ o ax cx ay cy, e = .returned (.tuple #[opV o ax cx ay cy, .bool false]))
theorem OneOf.yes {f : List Int → Option Opr} (hf : OneOf f) {s : List Int} {o : Opr} (h : IsWord s o) : f s = some o := (hf s o).2 h
/-- Cut at a byte, whatever stands in the text. -/
theorem dcut_or {c : Int} (h0 : 0 ≤ c) (h1 : c ≤ 255) {s : ByteArray} (hs : s.size ≤ 1000000) :
    (∃ a b : ByteArray, byt s = byt a ++ c :: byt b ∧ c ∉ byt a ∧ a.size + 1 + b.size = s.size ∧ ∀ w, Calls Tryd.prog 34 #[.string s, .string (txt [c])] w fun e w' => e = .returned (.tuple #[.string a, .string b, .bool true]) ∧ Drew w w') ∨
    (c ∉ byt s ∧ ∀ w, Calls Tryd.prog 34 #[.string s, .string (txt [c])] w fun e w' => e = .returned (.tuple #[.string s, .string ⟨#[]⟩, .bool false]) ∧ Drew w w') := by
  by_cases h : c ∈ byt s
  · obtain ⟨a, b, hab, ha, hsz⟩ := parts_at h
    refine .inl ⟨a, b, hab, ha, hsz, fun w => (dcut_any s (txt [c]) hs (by rw [txt_size (byts_one h0 h1)]; exact (by omega : (1 : Nat) ≤ 1000000)) w).mono fun e w' ⟨hc, hd⟩ => ⟨ans_yes h0 h1 hab ha hc, hd⟩⟩
  · exact .inr ⟨h, fun w => (dcut_any s (txt [c]) hs (by rw [txt_size (byts_one h0 h1)]; exact (by omega : (1 : Nat) ≤ 1000000)) w).mono fun e w' ⟨hc, hd⟩ => ⟨ans_no h0 h1 h hc, hd⟩⟩
theorem dcut_mul_or {s : ByteArray} (hs : s.size ≤ 1000000) :
    (∃ a b : ByteArray, byt s = byt a ++ (mulB ++ byt b) ∧ a.size + 2 + b.size = s.size ∧ (∀ p q, (195 : Int) ∉ p → byt s = p ++ (mulB ++ q) → byt a = p ∧ byt b = q) ∧ ∀ w, Calls Tryd.prog 34 #[.string s, .string (txt mulB)] w fun e w' => e = .returned (.tuple #[.string a, .string b, .bool true]) ∧ Drew w w') ∨
    ((∀ p q, byt s ≠ p ++ (mulB ++ q)) ∧ ∀ w, Calls Tryd.prog 34 #[.string s, .string (txt mulB)] w fun e w' => e = .returned (.tuple #[.string s, .string ⟨#[]⟩, .bool false]) ∧ Drew w w') := by
  rcases ans_mul s with ⟨a, b, h1, h2, h3, h4⟩ | ⟨h1, h2⟩
  · exact .inl ⟨a, b, h1, h2, h3, fun w => (dcut_any s (txt mulB) hs (by rw [txt_size byts_mul]; decide) w).mono fun e w' ⟨hc, hd⟩ => ⟨h4 e hc, hd⟩⟩
  · exact .inr ⟨h1, fun w => (dcut_any s (txt mulB) hs (by rw [txt_size byts_mul]; decide) w).mono fun e w' ⟨hc, hd⟩ => ⟨h2 e hc, hd⟩⟩
end Go.Proofs.YtlknopmpbkepjaaDoor

/- Operations as texts: the library's calls that reading uses, by the shelf's contracts, laid here; cutting, runes, numbers. -/
namespace Go.Proofs.YtlknopmpbkepjaaDoor
open Go.RowKit


def cutL_ren : Go.Shelf.Ren := ⟨fun | 145 => 44 | 220 => 56 | 219 => 67 | 217 => 78 | 225 => 79 | 224 => 80 | 267 => 81 | 266 => 87 | 314 => 88 | n => n, fun | 9 => 9 | 4 => 4 | 59 => 74 | 3 => 3 | 5 => 5 | 46 => 115 | 146 => 133 | 51 => 126 | n => n, fun | 1 => 5 | n => n⟩
theorem cutL : Go.Proofs.Lays.n145 Tryd.prog cutL_ren := {
  mixed := by kernel_rfl
  f145 := Tryd.func44.trans (congrArg some (by kernel_rfl))
  f217 := Tryd.func78.trans (congrArg some (by kernel_rfl))
  f219 := Tryd.func67.trans (congrArg some (by kernel_rfl))
  f220 := Tryd.func56.trans (congrArg some (by kernel_rfl))
  f224 := Tryd.func80.trans (congrArg some (by kernel_rfl))
  f225 := Tryd.func79.trans (congrArg some (by kernel_rfl))
  f266 := Tryd.func87.trans (congrArg some (by kernel_rfl))
  f267 := Tryd.func81.trans (congrArg some (by kernel_rfl))
  f314 := Tryd.func88.trans (congrArg some (by kernel_rfl))
  t3 := Tryd.underlying3
  a3 := Tryd.isAgg3
  z3 := Tryd.sizeOf3
  v3 := Tryd.zeroValue3
  t4 := Tryd.underlying4
  a4 := Tryd.isAgg4
  z4 := Tryd.sizeOf4
  v4 := Tryd.zeroValue4
  t5 := Tryd.underlying5
  a5 := Tryd.isAgg5
  z5 := Tryd.sizeOf5
  v5 := Tryd.zeroValue5
  t9 := Tryd.underlying9
  a9 := Tryd.isAgg9
  z9 := Tryd.sizeOf9
  v9 := Tryd.zeroValue9
  t46 := Tryd.underlying115
  a46 := Tryd.isAgg115
  z46 := Tryd.sizeOf115
  v46 := Tryd.zeroValue115
  t51 := Tryd.underlying126
  a51 := Tryd.isAgg126
  z51 := Tryd.sizeOf126
  v51 := Tryd.zeroValue126
  t59 := Tryd.underlying74
  a59 := Tryd.isAgg74
  z59 := Tryd.sizeOf74
  v59 := Tryd.zeroValue74
  t146 := Tryd.underlying133
  a146 := Tryd.isAgg133
  z146 := Tryd.sizeOf133
  v146 := Tryd.zeroValue133
  g1 := by kernel_rfl }
def runeL_ren : Go.Shelf.Ren := ⟨fun | 197 => 46 | 260 => 57 | n => n, fun | 9 => 9 | 21 => 21 | 3 => 3 | 4 => 4 | 5 => 5 | 105 => 88 | 119 => 114 | 0 => 0 | 46 => 115 | 139 => 118 | 138 => 117 | n => n, fun | 3 => 2 | 4 => 3 | n => n⟩
theorem runeL : Go.Proofs.Lays.n197 Tryd.prog runeL_ren := {
  mixed := by kernel_rfl
  f197 := Tryd.func46.trans (congrArg some (by kernel_rfl))
  f260 := Tryd.func57.trans (congrArg some (by kernel_rfl))
  t0 := Tryd.underlying0
  a0 := Tryd.isAgg0
  z0 := Tryd.sizeOf0
  v0 := Tryd.zeroValue0
  t3 := Tryd.underlying3
  a3 := Tryd.isAgg3
  z3 := Tryd.sizeOf3
  v3 := Tryd.zeroValue3
  t4 := Tryd.underlying4
  a4 := Tryd.isAgg4
  z4 := Tryd.sizeOf4
  v4 := Tryd.zeroValue4
  t5 := Tryd.underlying5
  a5 := Tryd.isAgg5
  z5 := Tryd.sizeOf5
  v5 := Tryd.zeroValue5
  t9 := Tryd.underlying9
  a9 := Tryd.isAgg9
  z9 := Tryd.sizeOf9
  v9 := Tryd.zeroValue9
  t21 := Tryd.underlying21
  a21 := Tryd.isAgg21
  z21 := Tryd.sizeOf21
  v21 := Tryd.zeroValue21
  t46 := Tryd.underlying115
  a46 := Tryd.isAgg115
  z46 := Tryd.sizeOf115
  v46 := Tryd.zeroValue115
  t105 := Tryd.underlying88
  a105 := Tryd.isAgg88
  z105 := Tryd.sizeOf88
  v105 := Tryd.zeroValue88
  t119 := Tryd.underlying114
  a119 := Tryd.isAgg114
  z119 := Tryd.sizeOf114
  t138 := Tryd.underlying117
  a138 := Tryd.isAgg117
  z138 := Tryd.sizeOf117
  v138 := Tryd.zeroValue117
  t139 := Tryd.underlying118
  a139 := Tryd.isAgg118
  z139 := Tryd.sizeOf118
  v139 := Tryd.zeroValue118
  g3 := by kernel_rfl
  g4 := by kernel_rfl }
def prsL_ren : Go.Shelf.Ren := ⟨fun | 174 => 68 | 247 => 82 | 245 => 83 | 287 => 89 | 279 => 90 | 280 => 91 | 281 => 92 | 282 => 93 | 321 => 94 | 322 => 95 | 316 => 96 | 171 => 40 | 205 => 97 | 243 => 53 | 246 => 52 | 283 => 62 | 284 => 63 | 285 => 64 | 286 => 65 | 129 => 73 | 317 => 72 | 318 => 74 | 319 => 75 | 320 => 76 | 337 => 85 | 338 => 86 | n => n, fun | 9 => 9 | 3 => 3 | 2 => 2 | 75 => 66 | 85 => 119 | 4 => 4 | 167 => 135 | 5 => 5 | 53 => 98 | 175 => 136 | 46 => 115 | 168 => 138 | 37 => 62 | 0 => 0 | 210 => 146 | 21 => 21 | 127 => 85 | 145 => 150 | 143 => 148 | 171 => 108 | 173 => 111 | 212 => 125 | 51 => 126 | 20 => 20 | 213 => 127 | 232 => 141 | 233 => 142 | 80 => 55 | n => n, fun | 15 => 8 | 16 => 9 | 17 => 4 | 18 => 6 | 19 => 7 | n => n⟩
theorem prsL : Go.Proofs.LaysC.n174 Tryd.prog prsL_ren := {
  mixed := by kernel_rfl
  f129 := Tryd.func73.trans (congrArg some (by kernel_rfl))
  f171 := Tryd.func40.trans (congrArg some (by kernel_rfl))
  f174 := Tryd.func68.trans (congrArg some (by kernel_rfl))
  f205 := Tryd.func97.trans (congrArg some (by kernel_rfl))
  f243 := Tryd.func53.trans (congrArg some (by kernel_rfl))
  f245 := Tryd.func83.trans (congrArg some (by kernel_rfl))
  f246 := Tryd.func52.trans (congrArg some (by kernel_rfl))
  f247 := Tryd.func82.trans (congrArg some (by kernel_rfl))
  f279 := Tryd.func90.trans (congrArg some (by kernel_rfl))
  f280 := Tryd.func91.trans (congrArg some (by kernel_rfl))
  f281 := Tryd.func92.trans (congrArg some (by kernel_rfl))
  f282 := Tryd.func93.trans (congrArg some (by kernel_rfl))
  f283 := Tryd.func62.trans (congrArg some (by kernel_rfl))
  f284 := Tryd.func63.trans (congrArg some (by kernel_rfl))
  f285 := Tryd.func64.trans (congrArg some (by kernel_rfl))
  f286 := Tryd.func65.trans (congrArg some (by kernel_rfl))
  f287 := Tryd.func89.trans (congrArg some (by kernel_rfl))
  f316 := Tryd.func96.trans (congrArg some (by kernel_rfl))
  f317 := Tryd.func72.trans (congrArg some (by kernel_rfl))
  f318 := Tryd.func74.trans (congrArg some (by kernel_rfl))
  f319 := Tryd.func75.trans (congrArg some (by kernel_rfl))
  f320 := Tryd.func76.trans (congrArg some (by kernel_rfl))
  f321 := Tryd.func94.trans (congrArg some (by kernel_rfl))
  f322 := Tryd.func95.trans (congrArg some (by kernel_rfl))
  f337 := Tryd.func85.trans (congrArg some (by kernel_rfl))
  f338 := Tryd.func86.trans (congrArg some (by kernel_rfl))
  t0 := Tryd.underlying0
  a0 := Tryd.isAgg0
  z0 := Tryd.sizeOf0
  v0 := Tryd.zeroValue0
  t2 := Tryd.underlying2
  a2 := Tryd.isAgg2
  z2 := Tryd.sizeOf2
  v2 := Tryd.zeroValue2
  t3 := Tryd.underlying3
  a3 := Tryd.isAgg3
  z3 := Tryd.sizeOf3
  v3 := Tryd.zeroValue3
  t4 := Tryd.underlying4
  a4 := Tryd.isAgg4
  z4 := Tryd.sizeOf4
  v4 := Tryd.zeroValue4
  t5 := Tryd.underlying5
  a5 := Tryd.isAgg5
  z5 := Tryd.sizeOf5
  v5 := Tryd.zeroValue5
  t9 := Tryd.underlying9
  a9 := Tryd.isAgg9
  z9 := Tryd.sizeOf9
  v9 := Tryd.zeroValue9
  t20 := Tryd.underlying20
  a20 := Tryd.isAgg20
  z20 := Tryd.sizeOf20
  v20 := Tryd.zeroValue20
  t21 := Tryd.underlying21
  a21 := Tryd.isAgg21
  z21 := Tryd.sizeOf21
  v21 := Tryd.zeroValue21
  t37 := Tryd.underlying62
  a37 := Tryd.isAgg62
  z37 := Tryd.sizeOf62
  v37 := Tryd.zeroValue62
  t46 := Tryd.underlying115
  a46 := Tryd.isAgg115
  z46 := Tryd.sizeOf115
  v46 := Tryd.zeroValue115
  t51 := Tryd.underlying126
  a51 := Tryd.isAgg126
  z51 := Tryd.sizeOf126
  v51 := Tryd.zeroValue126
  t53 := Tryd.underlying98
  a53 := Tryd.isAgg98
  z53 := Tryd.sizeOf98
  v53 := Tryd.zeroValue98
  t75 := Tryd.underlying66
  a75 := Tryd.isAgg66
  z75 := Tryd.sizeOf66
  v75 := Tryd.zeroValue66
  t85 := Tryd.underlying119
  a85 := Tryd.isAgg119
  z85 := Tryd.sizeOf119
  v85 := Tryd.zeroValue119
  t127 := Tryd.underlying85
  a127 := Tryd.isAgg85
  z127 := Tryd.sizeOf85
  v127 := Tryd.zeroValue85
  t143 := Tryd.underlying148
  a143 := Tryd.isAgg148
  z143 := Tryd.sizeOf148
  v143 := Tryd.zeroValue148
  t145 := Tryd.underlying150
  a145 := Tryd.isAgg150
  z145 := Tryd.sizeOf150
  v145 := Tryd.zeroValue150
  t167 := Tryd.underlying135
  a167 := Tryd.isAgg135
  z167 := Tryd.sizeOf135
  v167 := Tryd.zeroValue135
  t168 := Tryd.underlying138
  a168 := Tryd.isAgg138
  z168 := Tryd.sizeOf138
  v168 := Tryd.zeroValue138
  t171 := Tryd.underlying108
  a171 := Tryd.isAgg108
  z171 := Tryd.sizeOf108
  v171 := Tryd.zeroValue108
  t173 := Tryd.underlying111
  a173 := Tryd.isAgg111
  z173 := Tryd.sizeOf111
  v173 := Tryd.zeroValue111
  t175 := Tryd.underlying136
  a175 := Tryd.isAgg136
  z175 := Tryd.sizeOf136
  v175 := Tryd.zeroValue136
  t210 := Tryd.underlying146
  a210 := Tryd.isAgg146
  z210 := Tryd.sizeOf146
  v210 := Tryd.zeroValue146
  t212 := Tryd.underlying125
  a212 := Tryd.isAgg125
  z212 := Tryd.sizeOf125
  v212 := Tryd.zeroValue125
  t213 := Tryd.underlying127
  a213 := Tryd.isAgg127
  z213 := Tryd.sizeOf127
  t232 := Tryd.underlying141
  a232 := Tryd.isAgg141
  z232 := Tryd.sizeOf141
  v232 := Tryd.zeroValue141
  t233 := Tryd.underlying142
  a233 := Tryd.isAgg142
  z233 := Tryd.sizeOf142
  v233 := Tryd.zeroValue142
  g15 := by kernel_rfl
  g16 := by kernel_rfl
  g17 := by kernel_rfl
  g18 := by kernel_rfl
  g19 := by kernel_rfl
  t80 := Tryd.underlying55
  a80 := Tryd.isAgg55
  z80 := Tryd.sizeOf55
  v80 := Tryd.zeroValue55
  i0 := by kernel_rfl
  i2 := by kernel_rfl
  i3 := by kernel_rfl
  i4 := by kernel_rfl
  i5 := by kernel_rfl
  i9 := by kernel_rfl
  i20 := by kernel_rfl
  i21 := by kernel_rfl
  i37 := by kernel_rfl
  i46 := by kernel_rfl
  i51 := by kernel_rfl
  i53 := by kernel_rfl
  i75 := by kernel_rfl
  i80 := by kernel_rfl
  i85 := by kernel_rfl
  i127 := by kernel_rfl
  i143 := by kernel_rfl
  i145 := by kernel_rfl
  i167 := by kernel_rfl
  i168 := by kernel_rfl
  i171 := by kernel_rfl
  i173 := by kernel_rfl
  i175 := by kernel_rfl
  i210 := by kernel_rfl
  i212 := by kernel_rfl
  i232 := by kernel_rfl
  i233 := by kernel_rfl
  m15 := by kernel_rfl
  m16 := by kernel_rfl
  m17 := by kernel_rfl
  m18 := by kernel_rfl
  m19 := by kernel_rfl
  c0 := by kernel_rfl
  c2 := by kernel_rfl
  c3 := by kernel_rfl
  c4 := by kernel_rfl
  c5 := by kernel_rfl
  c9 := by kernel_rfl
  c20 := by kernel_rfl
  c21 := by kernel_rfl
  c37 := by kernel_rfl
  c46 := by kernel_rfl
  c51 := by kernel_rfl
  c53 := by kernel_rfl
  c75 := by kernel_rfl
  c80 := by kernel_rfl
  c85 := by kernel_rfl
  c127 := by kernel_rfl
  c143 := by kernel_rfl
  c145 := by kernel_rfl
  c167 := by kernel_rfl
  c168 := by kernel_rfl
  c171 := by kernel_rfl
  c173 := by kernel_rfl
  c175 := by kernel_rfl
  c210 := by kernel_rfl
  c212 := by kernel_rfl
  c213 := by kernel_rfl
  c232 := by kernel_rfl
  c233 := by kernel_rfl }
def atoL_ren : Go.Shelf.Ren := ⟨fun | 172 => 69 | 244 => 84 | 245 => 83 | 247 => 82 | 279 => 90 | 280 => 91 | 281 => 92 | 282 => 93 | 287 => 89 | 316 => 96 | 171 => 40 | 205 => 97 | 321 => 94 | 322 => 95 | 243 => 53 | 246 => 52 | 283 => 62 | 284 => 63 | 285 => 64 | 286 => 65 | 129 => 73 | 317 => 72 | 318 => 74 | 319 => 75 | 320 => 76 | 337 => 85 | 338 => 86 | n => n, fun | 9 => 9 | 3 => 3 | 75 => 66 | 76 => 67 | 4 => 4 | 5 => 5 | 167 => 135 | 37 => 62 | 0 => 0 | 85 => 119 | 2 => 2 | 168 => 138 | 53 => 98 | 175 => 136 | 46 => 115 | 210 => 146 | 127 => 85 | 145 => 150 | 143 => 148 | 21 => 21 | 171 => 108 | 173 => 111 | 212 => 125 | 51 => 126 | 20 => 20 | 213 => 127 | 232 => 141 | 233 => 142 | 80 => 55 | n => n, fun | 15 => 8 | 16 => 9 | 17 => 4 | 18 => 6 | 19 => 7 | n => n⟩
theorem atoL : Go.Proofs.LaysC.n172 Tryd.prog atoL_ren := {
  mixed := by kernel_rfl
  f129 := Tryd.func73.trans (congrArg some (by kernel_rfl))
  f171 := Tryd.func40.trans (congrArg some (by kernel_rfl))
  f172 := Tryd.func69.trans (congrArg some (by kernel_rfl))
  f205 := Tryd.func97.trans (congrArg some (by kernel_rfl))
  f243 := Tryd.func53.trans (congrArg some (by kernel_rfl))
  f244 := Tryd.func84.trans (congrArg some (by kernel_rfl))
  f245 := Tryd.func83.trans (congrArg some (by kernel_rfl))
  f246 := Tryd.func52.trans (congrArg some (by kernel_rfl))
  f247 := Tryd.func82.trans (congrArg some (by kernel_rfl))
  f279 := Tryd.func90.trans (congrArg some (by kernel_rfl))
  f280 := Tryd.func91.trans (congrArg some (by kernel_rfl))
  f281 := Tryd.func92.trans (congrArg some (by kernel_rfl))
  f282 := Tryd.func93.trans (congrArg some (by kernel_rfl))
  f283 := Tryd.func62.trans (congrArg some (by kernel_rfl))
  f284 := Tryd.func63.trans (congrArg some (by kernel_rfl))
  f285 := Tryd.func64.trans (congrArg some (by kernel_rfl))
  f286 := Tryd.func65.trans (congrArg some (by kernel_rfl))
  f287 := Tryd.func89.trans (congrArg some (by kernel_rfl))
  f316 := Tryd.func96.trans (congrArg some (by kernel_rfl))
  f317 := Tryd.func72.trans (congrArg some (by kernel_rfl))
  f318 := Tryd.func74.trans (congrArg some (by kernel_rfl))
  f319 := Tryd.func75.trans (congrArg some (by kernel_rfl))
  f320 := Tryd.func76.trans (congrArg some (by kernel_rfl))
  f321 := Tryd.func94.trans (congrArg some (by kernel_rfl))
  f322 := Tryd.func95.trans (congrArg some (by kernel_rfl))
  f337 := Tryd.func85.trans (congrArg some (by kernel_rfl))
  f338 := Tryd.func86.trans (congrArg some (by kernel_rfl))
  t0 := Tryd.underlying0
  a0 := Tryd.isAgg0
  z0 := Tryd.sizeOf0
  v0 := Tryd.zeroValue0
  t2 := Tryd.underlying2
  a2 := Tryd.isAgg2
  z2 := Tryd.sizeOf2
  v2 := Tryd.zeroValue2
  t3 := Tryd.underlying3
  a3 := Tryd.isAgg3
  z3 := Tryd.sizeOf3
  v3 := Tryd.zeroValue3
  t4 := Tryd.underlying4
  a4 := Tryd.isAgg4
  z4 := Tryd.sizeOf4
  v4 := Tryd.zeroValue4
  t5 := Tryd.underlying5
  a5 := Tryd.isAgg5
  z5 := Tryd.sizeOf5
  v5 := Tryd.zeroValue5
  t9 := Tryd.underlying9
  a9 := Tryd.isAgg9
  z9 := Tryd.sizeOf9
  v9 := Tryd.zeroValue9
  t20 := Tryd.underlying20
  a20 := Tryd.isAgg20
  z20 := Tryd.sizeOf20
  v20 := Tryd.zeroValue20
  t21 := Tryd.underlying21
  a21 := Tryd.isAgg21
  z21 := Tryd.sizeOf21
  v21 := Tryd.zeroValue21
  t37 := Tryd.underlying62
  a37 := Tryd.isAgg62
  z37 := Tryd.sizeOf62
  v37 := Tryd.zeroValue62
  t46 := Tryd.underlying115
  a46 := Tryd.isAgg115
  z46 := Tryd.sizeOf115
  v46 := Tryd.zeroValue115
  t51 := Tryd.underlying126
  a51 := Tryd.isAgg126
  z51 := Tryd.sizeOf126
  v51 := Tryd.zeroValue126
  t53 := Tryd.underlying98
  a53 := Tryd.isAgg98
  z53 := Tryd.sizeOf98
  v53 := Tryd.zeroValue98
  t75 := Tryd.underlying66
  a75 := Tryd.isAgg66
  z75 := Tryd.sizeOf66
  v75 := Tryd.zeroValue66
  t76 := Tryd.underlying67
  a76 := Tryd.isAgg67
  z76 := Tryd.sizeOf67
  v76 := Tryd.zeroValue67
  t85 := Tryd.underlying119
  a85 := Tryd.isAgg119
  z85 := Tryd.sizeOf119
  v85 := Tryd.zeroValue119
  t127 := Tryd.underlying85
  a127 := Tryd.isAgg85
  z127 := Tryd.sizeOf85
  v127 := Tryd.zeroValue85
  t143 := Tryd.underlying148
  a143 := Tryd.isAgg148
  z143 := Tryd.sizeOf148
  v143 := Tryd.zeroValue148
  t145 := Tryd.underlying150
  a145 := Tryd.isAgg150
  z145 := Tryd.sizeOf150
  v145 := Tryd.zeroValue150
  t167 := Tryd.underlying135
  a167 := Tryd.isAgg135
  z167 := Tryd.sizeOf135
  v167 := Tryd.zeroValue135
  t168 := Tryd.underlying138
  a168 := Tryd.isAgg138
  z168 := Tryd.sizeOf138
  v168 := Tryd.zeroValue138
  t171 := Tryd.underlying108
  a171 := Tryd.isAgg108
  z171 := Tryd.sizeOf108
  v171 := Tryd.zeroValue108
  t173 := Tryd.underlying111
  a173 := Tryd.isAgg111
  z173 := Tryd.sizeOf111
  v173 := Tryd.zeroValue111
  t175 := Tryd.underlying136
  a175 := Tryd.isAgg136
  z175 := Tryd.sizeOf136
  v175 := Tryd.zeroValue136
  t210 := Tryd.underlying146
  a210 := Tryd.isAgg146
  z210 := Tryd.sizeOf146
  v210 := Tryd.zeroValue146
  t212 := Tryd.underlying125
  a212 := Tryd.isAgg125
  z212 := Tryd.sizeOf125
  v212 := Tryd.zeroValue125
  t213 := Tryd.underlying127
  a213 := Tryd.isAgg127
  z213 := Tryd.sizeOf127
  t232 := Tryd.underlying141
  a232 := Tryd.isAgg141
  z232 := Tryd.sizeOf141
  v232 := Tryd.zeroValue141
  t233 := Tryd.underlying142
  a233 := Tryd.isAgg142
  z233 := Tryd.sizeOf142
  v233 := Tryd.zeroValue142
  g15 := by kernel_rfl
  g16 := by kernel_rfl
  g17 := by kernel_rfl
  g18 := by kernel_rfl
  g19 := by kernel_rfl
  t80 := Tryd.underlying55
  a80 := Tryd.isAgg55
  z80 := Tryd.sizeOf55
  v80 := Tryd.zeroValue55
  i0 := by kernel_rfl
  i2 := by kernel_rfl
  i3 := by kernel_rfl
  i4 := by kernel_rfl
  i5 := by kernel_rfl
  i9 := by kernel_rfl
  i20 := by kernel_rfl
  i21 := by kernel_rfl
  i37 := by kernel_rfl
  i46 := by kernel_rfl
  i51 := by kernel_rfl
  i53 := by kernel_rfl
  i75 := by kernel_rfl
  i76 := by kernel_rfl
  i80 := by kernel_rfl
  i85 := by kernel_rfl
  i127 := by kernel_rfl
  i143 := by kernel_rfl
  i145 := by kernel_rfl
  i167 := by kernel_rfl
  i168 := by kernel_rfl
  i171 := by kernel_rfl
  i173 := by kernel_rfl
  i175 := by kernel_rfl
  i210 := by kernel_rfl
  i212 := by kernel_rfl
  i232 := by kernel_rfl
  i233 := by kernel_rfl
  m15 := by kernel_rfl
  m16 := by kernel_rfl
  m17 := by kernel_rfl
  m18 := by kernel_rfl
  m19 := by kernel_rfl
  c0 := by kernel_rfl
  c2 := by kernel_rfl
  c3 := by kernel_rfl
  c4 := by kernel_rfl
  c5 := by kernel_rfl
  c9 := by kernel_rfl
  c20 := by kernel_rfl
  c21 := by kernel_rfl
  c37 := by kernel_rfl
  c46 := by kernel_rfl
  c51 := by kernel_rfl
  c53 := by kernel_rfl
  c75 := by kernel_rfl
  c76 := by kernel_rfl
  c80 := by kernel_rfl
  c85 := by kernel_rfl
  c127 := by kernel_rfl
  c143 := by kernel_rfl
  c145 := by kernel_rfl
  c167 := by kernel_rfl
  c168 := by kernel_rfl
  c171 := by kernel_rfl
  c173 := by kernel_rfl
  c175 := by kernel_rfl
  c210 := by kernel_rfl
  c212 := by kernel_rfl
  c213 := by kernel_rfl
  c232 := by kernel_rfl
  c233 := by kernel_rfl }
/-- The library's MaxLen is some number. -/
def MaxL (w : World) : Prop := ∃ m : Int, w.cell? ⟨5, 0, none⟩ = some (.int .i64 m)
theorem maxl_below {w w' : World} (h : MaxL w) (b : Below w.heap.size w w') : MaxL w' := by
  obtain ⟨m, hm⟩ := h
  exact ⟨m, cb b (cell_ltL hm) hm⟩
def Utf8P (w : World) : Prop := Go.Lib.Utf8Tabs 2 3 w
theorem utf8_below {w w' : World} (h : Utf8P w) (b : Below w.heap.size w w') : Utf8P w' := Go.Proofs.Utf8Tabs_below h b
/-- The library's two errors of numbers are something. -/
def ErrV (w : World) (g : Nat) : Prop := ∃ te pe, w.cell? ⟨g, 0, none⟩ = some (.iface te pe)
theorem errv_below {w w' : World} {g : Nat} (h : ErrV w g) (b : Below w.heap.size w w') : ErrV w' g := by
  obtain ⟨te, pe, hm⟩ := h
  exact ⟨te, pe, cb b (cell_ltL hm) hm⟩
theorem cutp_any (s t : ByteArray) (hs : s.size ≤ 1000000) (w : World) (hm : MaxL w) :
    Calls Tryd.prog 44 #[.string s, .string t] w fun e w' => CutAns s t e ∧ Drew w w' := by
  obtain ⟨m, hm⟩ := hm
  refine (Go.Proofs.Any.strings_Cut cutL s t m w (by omega) hm).mono ?_
  rintro e w' ⟨rfl, n, rfl⟩
  exact ⟨lib_cut s t, n, rfl⟩
theorem cutp_or {c : Int} (h0 : 0 ≤ c) (h1 : c ≤ 255) {s : ByteArray} (hs : s.size ≤ 1000000) :
    (∃ a b : ByteArray, byt s = byt a ++ c :: byt b ∧ c ∉ byt a ∧ a.size + 1 + b.size = s.size ∧ ∀ w, MaxL w → Calls Tryd.prog 44 #[.string s, .string (txt [c])] w fun e w' => e = .returned (.tuple #[.string a, .string b, .bool true]) ∧ Drew w w') ∨
    (c ∉ byt s ∧ ∀ w, MaxL w → Calls Tryd.prog 44 #[.string s, .string (txt [c])] w fun e w' => e = .returned (.tuple #[.string s, .string ⟨#[]⟩, .bool false]) ∧ Drew w w') := by
  by_cases h : c ∈ byt s
  · obtain ⟨a, b, hab, ha, hsz⟩ := parts_at h
    exact .inl ⟨a, b, hab, ha, hsz, fun w hm => (cutp_any s (txt [c]) hs w hm).mono fun e w' ⟨hc, hd⟩ => ⟨ans_yes h0 h1 hab ha hc, hd⟩⟩
  · exact .inr ⟨h, fun w hm => (cutp_any s (txt [c]) hs w hm).mono fun e w' ⟨hc, hd⟩ => ⟨ans_no h0 h1 h hc, hd⟩⟩
theorem cutp_mul_or {s : ByteArray} (hs : s.size ≤ 1000000) :
    (∃ a b : ByteArray, byt s = byt a ++ (mulB ++ byt b) ∧ a.size + 2 + b.size = s.size ∧ (∀ p q, (195 : Int) ∉ p → byt s = p ++ (mulB ++ q) → byt a = p ∧ byt b = q) ∧ ∀ w, MaxL w → Calls Tryd.prog 44 #[.string s, .string (txt mulB)] w fun e w' => e = .returned (.tuple #[.string a, .string b, .bool true]) ∧ Drew w w') ∨
    ((∀ p q, byt s ≠ p ++ (mulB ++ q)) ∧ ∀ w, MaxL w → Calls Tryd.prog 44 #[.string s, .string (txt mulB)] w fun e w' => e = .returned (.tuple #[.string s, .string ⟨#[]⟩, .bool false]) ∧ Drew w w') := by
  rcases ans_mul s with ⟨a, b, h1, h2, h3, h4⟩ | ⟨h1, h2⟩
  · exact .inl ⟨a, b, h1, h2, h3, fun w hm => (cutp_any s (txt mulB) hs w hm).mono fun e w' ⟨hc, hd⟩ => ⟨h4 e hc, hd⟩⟩
  · exact .inr ⟨h1, fun w hm => (cutp_any s (txt mulB) hs w hm).mono fun e w' ⟨hc, hd⟩ => ⟨h2 e hc, hd⟩⟩
theorem rune_any (s : ByteArray) (w : World) (h : Utf8P w) :
    Calls Tryd.prog 46 #[.string s] w fun e w' => e = .returned (.tuple #[.int .i32 (Go.Lib.decodeGo s).1, .int .i64 (Go.Lib.decodeGo s).2]) ∧ Below w.heap.size w w' := Go.Proofs.Any.utf8_DecodeRuneInString runeL s w h
/-- What the library tells of a number's text: the number and no error, or an error. -/
theorem prs_any (s : ByteArray) (hs : s.size ≤ 1000000) (w : World) (h1 : ErrV w 8) (h2 : ErrV w 9) :
    Calls Tryd.prog 68 #[.string s, .int .i64 10, .int .i64 64] w fun e w' => ((∃ v, Go.Lib.atoiAll s.data.toList = .ok v ∧ e = .returned (.tuple #[.int .i64 v, .nilIface])) ∨ ((∀ v, Go.Lib.atoiAll s.data.toList ≠ .ok v) ∧ ∃ v t p, e = .returned (.tuple #[.int .i64 v, .iface t p]))) ∧ Below w.heap.size w w' := by
  obtain ⟨t1, p1, c1⟩ := h1
  obtain ⟨t2, p2, c2⟩ := h2
  cases h : Go.Lib.atoiAll s.data.toList with
  | ok v =>
    refine (Go.Proofs.Any.strconv_ParseInt_10_at64_ok prsL s (by omega) v (by rw [Go.Lib.parseIntB_64]; exact h) w).mono ?_
    rintro e w' ⟨rfl, hw⟩
    refine ⟨.inl ⟨v, rfl, rfl⟩, ?_⟩
    rcases hw with rfl | ⟨t, rfl⟩
    · exact Below.refl _ _
    · exact Go.Lib.bytesWorld_below _ _ _
  | «syntax» =>
    refine (Go.Proofs.Any.strconv_ParseInt_10_at64_syntax prsL s (by omega) (by rw [Go.Lib.parseIntB_64]; exact h) _ w c1 (.inr ⟨_, _, rfl⟩)).mono ?_
    rintro e w' ⟨N, rfl, _, _, hB⟩
    exact ⟨.inr ⟨(fun v q => by cases q), _, _, _, rfl⟩, hB⟩
  | range =>
    refine (Go.Proofs.Any.strconv_ParseInt_10_at64_range prsL s (by omega) (by rw [Go.Lib.parseIntB_64]; exact h) _ w c2 (.inr ⟨_, _, rfl⟩)).mono ?_
    rintro e w' ⟨N, rfl, _, _, hB⟩
    exact ⟨.inr ⟨(fun v q => by cases q), _, _, _, rfl⟩, hB⟩
theorem ato_any (s : ByteArray) (hs : s.size ≤ 1000000) (w : World) (h1 : ErrV w 8) (h2 : ErrV w 9) :
    Calls Tryd.prog 69 #[.string s] w fun e w' => ((∃ v, Go.Lib.atoiAll s.data.toList = .ok v ∧ e = .returned (.tuple #[.int .i64 v, .nilIface])) ∨ ((∀ v, Go.Lib.atoiAll s.data.toList ≠ .ok v) ∧ ∃ v t p, e = .returned (.tuple #[.int .i64 v, .iface t p]))) ∧ Below w.heap.size w w' := by
  obtain ⟨t1, p1, c1⟩ := h1
  obtain ⟨t2, p2, c2⟩ := h2
  cases h : Go.Lib.atoiAll s.data.toList with
  | ok v =>
    refine (Go.Proofs.Any.strconv_Atoi_ok atoL s (by omega) v h w).mono ?_
    rintro e w' ⟨rfl, hw⟩
    refine ⟨.inl ⟨v, rfl, rfl⟩, ?_⟩
    rcases hw with rfl | ⟨t, rfl⟩
    · exact Below.refl _ _
    · exact Go.Lib.bytesWorld_below _ _ _
  | «syntax» =>
    refine (Go.Proofs.Any.strconv_Atoi_syntax atoL s (by omega) h _ w c1 (.inr ⟨_, _, rfl⟩)).mono ?_
    rintro e w' ⟨N, rfl, _, _, hB⟩
    exact ⟨.inr ⟨(fun v q => by cases q), _, _, _, rfl⟩, hB⟩
  | range =>
    refine (Go.Proofs.Any.strconv_Atoi_range atoL s (by omega) h _ w c2 (.inr ⟨_, _, rfl⟩)).mono ?_
    rintro e w' ⟨N, rfl, _, _, hB⟩
    exact ⟨.inr ⟨(fun v q => by cases q), _, _, _, rfl⟩, hB⟩
end Go.Proofs.YtlknopmpbkepjaaDoor

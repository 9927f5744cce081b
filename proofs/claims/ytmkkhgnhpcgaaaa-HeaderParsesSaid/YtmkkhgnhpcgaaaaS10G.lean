/- Heads: the law on any bytes, out of what the program's Parse answers. -/
import Derived.Test.YtmkkhgnhpcgaaaaS10F
namespace Go.Proofs.Ytmkkhgnhpcgaaaa
open Go.RowKit


theorem infoU8 : (Try.prog.info? 5).map (fun i => (i.zero, i.size, i.bytes)) = some (some (.int .u8 0), 1, 1) := by kernel_rfl
/-- 'string(b)'. -/
theorem conv_run {w : World} {xs : List Int} {n : Nat} {ad : Option Addr} (cap : Nat) (hn : xs.length = n) (hr : RowAt .u8 w ad xs) : (convert 22 9 (.slice ad n cap)).run Try.prog w = .ok (.string (strOfNums xs)) w := by
  by_cases h0 : xs = []
  · subst h0
    subst hn
    rcases ad with _ | a
    · exact run_convert_bytes_nil (P := Try.prog) w 22 5 Try.underlying22 Try.underlying5 0 cap 9 Try.underlying9
    · rw [run_convert_bytes_string w 22 9 5 (some a) _ cap Try.underlying22 Try.underlying5 Try.underlying9]
      exact run_bytesToString w a 0 cap [] (by simp [loadCells, loadCellsFrom])
  · rcases hr with h | ⟨b, off, rfl, hc⟩
    · exact absurd h h0
    · exact run_convert_bytes_arg (P := Try.prog) w 22 5 Try.underlying22 Try.underlying5 b off n cap xs hn (fun i hi => hc i (by omega)) 9 Try.underlying9
set_option maxHeartbeats 1000000 in
theorem parses_main {K : World → Prop} (hKB : KB K) (CP : HParseC K) (xs : List Int) (n : Nat) (hn : xs.length = n) (h400 : n ≤ 400) (ad : Option Addr) (cap : Nat) (w : World) (hk : K w) (hr : RowAt .u8 w ad xs) (hx : ∀ x ∈ xs, 0 ≤ x ∧ x ≤ 255) (hz : ad = none → cap = 0) :
    Calls Try.prog 3 #[.slice ad n cap] w fun e w' => e = .returned (.bool true) ∧ Below w.heap.size w w' := by
  have CL := fun w hk => hlives hKB CP w hk
  have hKB : ∀ w w', K w → Below w.heap.size w w' → K w' := hKB
  have C1 := fun (ad : Option Addr) cap w hk hr hz => CP xs n ad cap w hk hn (by omega) hx hr hz
  have hb := byt_nums hx
  have C2 := fun w => dparse_any (strOfNums xs) (by rw [← byt_len, hb, hn]; omega) w
  rw [hb] at C2
  unfold hdV at C1 C2
  obtain ⟨⟨⟨a, b, c, d, e⟩, k⟩, hP⟩ : ∃ r, parseF xs = r := ⟨_, rfl⟩
  rw [hP] at C1 C2
  simp only at C1 C2
  have CV := hide (fun (w : World) (ad : Option Addr) (cap : Nat) (hr : RowAt .u8 w ad xs) => conv_run cap hn hr)
  have HR := hide hr
  have HN := hide hn
  have HZ := hide hz
  generalize strOfNums xs = q at *
  obtain ⟨i0, hi0, hz0, hz1, hz2⟩ := info_parts infoU8
  have qa : (a == a) = true := beq_self_eq_true a
  have qb : (b == b) = true := beq_self_eq_true b
  have qc : (c == c) = true := beq_self_eq_true c
  have qd : (d == d) = true := beq_self_eq_true d
  have qe : (e == e) = true := beq_self_eq_true e
  have qk : (k == k) = true := beq_self_eq_true k
  clear hr hn hx hz hb hP CP
  go_enter Try.func3, Try.ntmps3
  go_wp2_with (first
    | (go_at_call 6; (with_reducible refine (CL _ hk).mono ?_); rintro e w1 ⟨rfl, b1⟩)
    | (at_builtin; refine wpList_append_row .u8 _ rfl _ _ 22 rfl w.heap.size 5 i0 (.int .u8 0) 1 Try.underlying22 hi0 hz0 hz1 hz2 rfl (.slice (some ⟨w1.heap.size, 0, none⟩) 0 0) [] rfl (own_lit0 _ _ _ _ (b1.size)) ad n cap xs rfl HN.out (HR.out.below (ba b1 _)) HZ.out (by simp; unfold maxLen; omega) (by simp; omega) (by have := b1.size; simp; omega) ?_; intro v3 w3 own3 grow3 _; have b3 := grown_lit b1 grow3; rw [List.nil_append] at own3; obtain ⟨ad3, cap3, rfl, hr3, hz3⟩ := own3.formn HN.out; have HR3 := hide hr3; have HZ3 := hide hz3; clear own3 grow3 hr3 hz3)
    | (go_at_call 7; (with_reducible refine (C1 _ _ _ (hKB _ _ hk b3) HR3.out HZ3.out).mono ?_); rintro e w4 ⟨rfl, b4⟩; have cv4 := fun o : Obj => CV.out _ _ cap (HR.out.below (ba (bt b3 b4) o)))
    | (go_at_call 8; (with_reducible refine (C2 _).mono ?_); rintro e w5 ⟨rfl, b5⟩; have p0 := cb b5 (b := w4.heap.size) (o := 0) (v := .int .i64 a) (by simp) (by simp); have p1 := cb b5 (b := w4.heap.size) (o := 1) (v := .int .i64 b) (by simp) (by simp); have p2 := cb b5 (b := w4.heap.size) (o := 2) (v := .int .i64 c) (by simp) (by simp); have p3 := cb b5 (b := w4.heap.size) (o := 3) (v := .int .i64 d) (by simp) (by simp); have p4 := cb b5 (b := w4.heap.size) (o := 4) (v := .int .i64 e) (by simp) (by simp); have hB5 : w4.heap.size < w5.heap.size := (by have := b5.size; simp at this; omega); have cv5 := fun o : Obj => CV.out _ _ cap (HR.out.below (ba (bt (ba (bt b3 b4) _) b5) o)); have cv6 := fun o : Obj => CV.out _ _ cap3 (HR3.out.below (ba (bt (ba b4 _) b5) o))))
  go_ret
  exact ⟨rfl, ba (bt (ba (bt b3 b4) _) b5) _⟩
theorem of_HeaderParses {K : World → Prop} (hKB : KB K) (CP : HParseC K) (xs : List Int) (ad : Option Addr) (cap : Nat) (w : World) (hk : K w) (hr : RowAt .u8 w ad xs) (hx : AllK .u8 xs) (hl : xs.length ≤ maxLen) (hz : ad = none → cap = 0) :
    Calls Try.prog 3 #[.slice ad xs.length cap] w fun e w' => e = .returned (.bool true) ∧ Below w.heap.size w w' := by
  by_cases h : xs.length ≤ 400
  · exact parses_main hKB CP xs _ rfl h ad cap w hk hr (fun x hx' => by simpa [Lit.wf, IntKind.min, IntKind.max, IntKind.signed, IntKind.bits] using hx x hx') hz
  · have hl2 : xs.length ≤ 9223372036854775807 := hl
    have CL := fun w hk => hlives hKB CP w hk
    have hKB : ∀ w w', K w → Below w.heap.size w w' → K w' := hKB
    generalize xs.length = n at *
    clear hr hx hz hl CP
    go_enter Try.func3, Try.ntmps3
    go_wp2_with (first
      | (go_at_call 6; (with_reducible refine (CL w hk).mono ?_); rintro e w1 ⟨rfl, b1⟩)
      | (go_at_call 6; (with_reducible refine (CL w1 (hKB _ _ hk b1)).mono ?_); rintro e w2 ⟨rfl, b2⟩))
    go_ret
    exact ⟨rfl, bt b1 b2⟩
end Go.Proofs.Ytmkkhgnhpcgaaaa

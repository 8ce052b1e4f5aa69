/- Windows: what comes and what leaves is told of. -/
import Derived.Test.YtccgbkafcbfcgaaWnM
namespace Go.Proofs.Ytccgbkafcbfcgaa
open Go.RowKit

/-- A wide sum at a that stands for n, all else as it was. -/
def Sums8 (w : World) (a : Nat) (n : Int) (e : Ending) (w' : World) : Prop := e = .returned (.tuple #[]) ∧ (∃ lo hi, Box w' a [.int .u64 lo, .int .u64 hi] ∧ Rep lo hi n) ∧ Turn [a] w w'
theorem sums_of {w w' : World} {a : Nat} {n lo hi : Int} {e : Ending} (hb : Box w a [.int .u64 lo, .int .u64 hi]) (h : WPuts w a n e w') : Sums8 w a n e w' := by
  obtain ⟨lo', hi', w1, rfl, hr, hB, rfl⟩ := h
  have h1 := ((hb.next hB).set 0 (by simp) (.int .u64 lo')).set 1 (by simp) (.int .u64 hi')
  exact ⟨rfl, ⟨lo', hi', by simpa using h1, hr⟩, ((Turn.of_below hB).andSet _ _ (.inl (by simp))).andSet _ _ (.inl (by simp))⟩
theorem sAdd (a : Nat) (lo hi n v : Int) (w : World) (hb : Box w a [.int .u64 lo, .int .u64 hi]) (hr : Rep lo hi n) (hv : In64 v) (h0 : -170141183460469231731687303715884105728 ≤ n + v) (h1 : n + v < 170141183460469231731687303715884105728) :
    Calls Try.prog 42 #[.pointer (some ⟨a, 0, none⟩), .int .i64 v] w (Sums8 w a (n + v)) :=
  (wAdd_at a lo hi n v hr hv.1 hv.2 h0 h1 w hb.lt hb.two.1 hb.two.2.1 hb.two.2.2.1 hb.two.2.2.2).mono fun _ _ h => sums_of hb h
theorem sTake (a : Nat) (lo hi n v : Int) (w : World) (hb : Box w a [.int .u64 lo, .int .u64 hi]) (hr : Rep lo hi n) (hv : In64 v) (h0 : -170141183460469231731687303715884105728 ≤ n - v) (h1 : n - v < 170141183460469231731687303715884105728) :
    Calls Try.prog 39 #[.pointer (some ⟨a, 0, none⟩), .int .i64 v] w (Sums8 w a (n - v)) :=
  (wTake_at a lo hi n v hr hv.1 hv.2 h0 h1 w hb.lt hb.two.1 hb.two.2.1 hb.two.2.2.1 hb.two.2.2.2).mono fun _ _ h => sums_of hb h
/-- What is told is of these values now. -/
def Told (w : World) (V : List Int) (agg : Int) (sp mp op : Option Addr) (A : List Nat) (e : Ending) (w' : World) : Prop := e = .returned (.tuple #[]) ∧ ∃ A', Aux w' V agg sp mp op A' ∧ Turn A w w' ∧ From w A A'
set_option maxRecDepth 20000 in
set_option maxHeartbeats 1000000 in
theorem wCome (b : Nat) (v0 v1 v2 v3 v4 v5 : Value) (sp mp op : Option Addr) (A : List Nat) (agg v : Int) (V : List Int) (w : World) (hx : Box w b [v0, v1, v2, v3, v4, v5, .pointer sp, .pointer mp, .pointer op]) (ha : Aux w V agg sp mp op A) (hbA : b ∉ A) (hv : In64 v) (hV : ∀ x, x ∈ V → In64 x) (hl : V.length ≤ 4096) :
    Calls Try.prog 28 #[.pointer (some ⟨b, 0, none⟩), .int .i64 v] w (Told w (V ++ [v]) agg sp mp op A) := by
  have hlt := hx.lt
  have c6 := hx.cell 6 _ rfl
  have c7 := hx.cell 7 _ rfl
  have c8 := hx.cell 8 _ rfl
  have HX := hid hx
  clear hx
  rcases ha with ⟨a, lo, hi, h1, hb, hr, rfl, rfl, rfl, rfl⟩ | ⟨a, c, h, h1, hm, rfl, rfl, rfl, rfl⟩ | ⟨h1, rfl, rfl, rfl, rfl⟩ | ⟨a, c, h1, hk, rfl, rfl, rfl, rfl⟩
  · skip
    obtain ⟨s1, s2⟩ := sum_bounds hV
    have hv1 := hv.1
    have hv2 := hv.2
    have HS := hid (sAdd a lo hi V.sum v w hb hr hv (by omega) (by omega))
    have hba : b ∉ [a] := hbA
    clear hb hr hv hV s1 s2 hv1 hv2 hl
    go_enter Try.func28, Try.ntmps28
    go_wp2_with fail
    refine Calls.mono HS.out ?_
    rintro e w1 ⟨rfl, ⟨lo', hi', hb1, hr1⟩, t1⟩
    have hx1 := HX.out.turn t1 hba
    have hlt1 := hx1.lt
    have d7 := hx1.cell 7 _ rfl
    have d8 := hx1.cell 8 _ rfl
    clear c6 c7 c8 hlt
    have HB := hid hb1
    have HR := hid hr1
    have HT := hid t1
    clear hb1 hr1 t1 hx1
    go_wp2_with fail
    refine Calls.mono (mPut_nil v w1) ?_
    rintro e w2 ⟨rfl, rfl⟩
    go_wp2_with fail
    refine Calls.mono (rPut_nil v w1) ?_
    rintro e w2 ⟨rfl, rfl⟩
    go_wp2_with fail
    go_end0
    exact ⟨rfl, [a], .sum a lo' hi' h1 HB.out (by simpa [List.sum_append] using HR.out), HT.out, From.refl _ _⟩
  · skip
    have HS := hid (mPut a c h V v w hm (by omega))
    have hba : b ∉ [a, c] := hbA
    clear hm hv hV hl
    go_enter Try.func28, Try.ntmps28
    go_wp2_with fail
    refine Calls.mono (wAdd_nil v w) ?_
    rintro e w1 ⟨rfl, rfl⟩
    go_wp2_with fail
    refine Calls.mono HS.out ?_
    rintro e w1 ⟨rfl, c', hm1, t1, hc'⟩
    have hx1 := HX.out.turn t1 hba
    have hlt1 := hx1.lt
    have d8 := hx1.cell 8 _ rfl
    clear c6 c7 c8 hlt
    have HB := hid hm1
    have HT := hid t1
    clear hm1 t1 hx1
    go_wp2_with fail
    refine Calls.mono (rPut_nil v w1) ?_
    rintro e w2 ⟨rfl, rfl⟩
    go_wp2_with fail
    go_end0
    exact ⟨rfl, [a, c'], .best a c' h h1 HB.out, HT.out, fun i hi => by simp at hi ⊢; omega⟩
  · skip
    clear hv hV hl
    go_enter Try.func28, Try.ntmps28
    go_wp2_with fail
    refine Calls.mono (wAdd_nil v w) ?_
    rintro e w1 ⟨rfl, rfl⟩
    go_wp2_with fail
    refine Calls.mono (mPut_nil v w1) ?_
    rintro e w2 ⟨rfl, rfl⟩
    go_wp2_with fail
    refine Calls.mono (rPut_nil v w1) ?_
    rintro e w2 ⟨rfl, rfl⟩
    go_wp2_with fail
    go_end0
    exact ⟨rfl, [], .count h1, Turn.refl _ _, From.refl _ _⟩
  · skip
    have HS := hid (rPut a c (srt V) v w hk (srt_asc V) (by rw [srt_length]; omega))
    have hba : b ∉ [a, c] := hbA
    clear hk hv hV hl
    go_enter Try.func28, Try.ntmps28
    go_wp2_with fail
    refine Calls.mono (wAdd_nil v w) ?_
    rintro e w1 ⟨rfl, rfl⟩
    go_wp2_with fail
    refine Calls.mono (mPut_nil v w1) ?_
    rintro e w2 ⟨rfl, rfl⟩
    go_wp2_with fail
    refine Calls.mono HS.out ?_
    rintro e w1 ⟨rfl, c', hm1, t1, hc'⟩
    clear c6 c7 c8 hlt
    have HB := hid hm1
    have HT := hid t1
    clear hm1 t1
    go_wp2_with fail
    go_end0
    exact ⟨rfl, [a, c'], .rank a c' h1 (by rw [srt_snoc]; exact HB.out), HT.out, fun i hi => by simp at hi ⊢; omega⟩
theorem rem_front (v : Int) (V : List Int) : rem v (srt (v :: V)) = srt V := by
  rw [rem_srt (by simp)]
  simp
set_option maxRecDepth 20000 in
set_option maxHeartbeats 1000000 in
theorem wLeave (b : Nat) (v0 v1 v2 v3 v4 v5 : Value) (sp mp op : Option Addr) (A : List Nat) (agg v : Int) (V : List Int) (w : World) (hx : Box w b [v0, v1, v2, v3, v4, v5, .pointer sp, .pointer mp, .pointer op]) (ha : Aux w (v :: V) agg sp mp op A) (hbA : b ∉ A) (hv : In64 v) (hV : ∀ x, x ∈ V → In64 x) (hl : V.length ≤ 4096) :
    Calls Try.prog 27 #[.pointer (some ⟨b, 0, none⟩), .int .i64 v] w (Told w V agg sp mp op A) := by
  have hlt := hx.lt
  have c6 := hx.cell 6 _ rfl
  have c7 := hx.cell 7 _ rfl
  have c8 := hx.cell 8 _ rfl
  have HX := hid hx
  clear hx
  rcases ha with ⟨a, lo, hi, h1, hb, hr, rfl, rfl, rfl, rfl⟩ | ⟨a, c, h, h1, hm, rfl, rfl, rfl, rfl⟩ | ⟨h1, rfl, rfl, rfl, rfl⟩ | ⟨a, c, h1, hk, rfl, rfl, rfl, rfl⟩
  · skip
    obtain ⟨s1, s2⟩ := sum_bounds hV
    have hv1 := hv.1
    have hv2 := hv.2
    have e1 : (v :: V).sum - v = V.sum := by simp only [List.sum_cons]; omega
    have hS := sTake a lo hi (v :: V).sum v w hb hr hv (by omega) (by omega)
    rw [e1] at hS
    have HS := hid hS
    have hba : b ∉ [a] := hbA
    clear hb hr hv hV s1 s2 hv1 hv2 hl hS e1
    go_enter Try.func27, Try.ntmps27
    go_wp2_with fail
    refine Calls.mono HS.out ?_
    rintro e w1 ⟨rfl, ⟨lo', hi', hb1, hr1⟩, t1⟩
    have hx1 := HX.out.turn t1 hba
    have hlt1 := hx1.lt
    have d7 := hx1.cell 7 _ rfl
    have d8 := hx1.cell 8 _ rfl
    clear c6 c7 c8 hlt
    have HB := hid hb1
    have HR := hid hr1
    have HT := hid t1
    clear hb1 hr1 t1
    go_wp2_with fail
    refine Calls.mono (mTake_nil w1) ?_
    rintro e w2 ⟨rfl, rfl⟩
    go_wp2_with fail
    refine Calls.mono (rTake_nil v w1) ?_
    rintro e w2 ⟨rfl, hB2⟩
    have H2 := hid hB2
    clear hB2
    go_wp2_with fail
    go_end0
    exact ⟨rfl, [a], .sum a lo' hi' h1 (HB.out.next H2.out) HR.out, HT.out.andBelow H2.out, From.refl _ _⟩
  · skip
    have HS := hid (mTake_yes a c h v V w hm (by simp; omega))
    have hba : b ∉ [a, c] := hbA
    clear hm hv hV hl
    go_enter Try.func27, Try.ntmps27
    go_wp2_with fail
    refine Calls.mono (wTake_nil v w) ?_
    rintro e w1 ⟨rfl, rfl⟩
    go_wp2_with fail
    refine Calls.mono HS.out ?_
    rintro e w1 ⟨rfl, hm1, t1⟩
    have hx1 := HX.out.turn t1 hba
    have hlt1 := hx1.lt
    have d8 := hx1.cell 8 _ rfl
    clear c6 c7 c8 hlt
    have HB := hid hm1
    have HT := hid t1
    clear hm1 t1 hx1
    go_wp2_with fail
    refine Calls.mono (rTake_nil v w1) ?_
    rintro e w2 ⟨rfl, hB2⟩
    have H2 := hid hB2
    clear hB2
    go_wp2_with fail
    go_end0
    exact ⟨rfl, [a, c], .best a c h h1 (HB.out.next H2.out), HT.out.andBelow H2.out, From.refl _ _⟩
  · skip
    clear hv hV hl
    go_enter Try.func27, Try.ntmps27
    go_wp2_with fail
    refine Calls.mono (wTake_nil v w) ?_
    rintro e w1 ⟨rfl, rfl⟩
    go_wp2_with fail
    refine Calls.mono (mTake_nil w1) ?_
    rintro e w2 ⟨rfl, rfl⟩
    go_wp2_with fail
    refine Calls.mono (rTake_nil v w1) ?_
    rintro e w2 ⟨rfl, hB2⟩
    have H2 := hid hB2
    clear hB2
    go_wp2_with fail
    go_end0
    exact ⟨rfl, [], .count h1, Turn.of_below H2.out, From.refl _ _⟩
  · skip
    have hS := rTake_yes a c (srt (v :: V)) v w hk (srt_asc _) (by rw [srt_length]; simp; omega) ((srt_perm _).mem_iff.2 (by simp))
    rw [rem_front] at hS
    have HS := hid hS
    have hba : b ∉ [a, c] := hbA
    clear hk hv hV hl hS
    go_enter Try.func27, Try.ntmps27
    go_wp2_with fail
    refine Calls.mono (wTake_nil v w) ?_
    rintro e w1 ⟨rfl, rfl⟩
    go_wp2_with fail
    refine Calls.mono (mTake_nil w1) ?_
    rintro e w2 ⟨rfl, rfl⟩
    go_wp2_with fail
    refine Calls.mono HS.out ?_
    rintro e w1 ⟨rfl, c', hm1, t1, hc'⟩
    clear c6 c7 c8 hlt
    have HB := hid hm1
    have HT := hid t1
    clear hm1 t1
    go_wp2_with fail
    go_end0
    exact ⟨rfl, [a, c'], .rank a c' h1 HB.out, HT.out, fun i hi => by simp at hi ⊢; omega⟩
end Go.Proofs.Ytccgbkafcbfcgaa

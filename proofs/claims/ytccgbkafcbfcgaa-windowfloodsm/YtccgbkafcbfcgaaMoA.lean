/- An append onto what is kept; Put. -/
import Derived.Test.YtccgbkafcbfcgaaMoF
namespace Go.Proofs.Ytccgbkafcbfcgaa
open Go.RowKit

/-- What is kept, as cells. -/
def kv : List (Int × Nat) → List Value
  | [] => []
  | k :: K => .int .i64 k.1 :: .int .i64 (k.2 : Nat) :: kv K
theorem kv_length (K : List (Int × Nat)) : (kv K).length = K.length * 2 := by
  induction K with
  | nil => rfl
  | cons k K ih => simp only [kv, List.length_cons, ih]; omega
theorem kv_append (A B : List (Int × Nat)) : kv (A ++ B) = kv A ++ kv B := by
  induction A with
  | nil => rfl
  | cons k A ih => simp only [List.cons_append, kv, ih]
theorem kv_num {K : List (Int × Nat)} {i : Nat} {k : Int × Nat} (h : K[i]? = some k) : (kv K)[i * 2]? = some (.int .i64 k.1) := by
  induction K generalizing i with
  | nil => simp at h
  | cons j K ih =>
    cases i with
    | zero => simp at h; subst h; simp [kv]
    | succ i => simp at h; rw [show (i + 1) * 2 = i * 2 + 1 + 1 by omega]; simpa [kv] using ih h
theorem kv_ahd {K : List (Int × Nat)} {i : Nat} {k : Int × Nat} (h : K[i]? = some k) : (kv K)[i * 2 + 1]? = some (.int .i64 (k.2 : Nat)) := by
  induction K generalizing i with
  | nil => simp at h
  | cons j K ih =>
    cases i with
    | zero => simp at h; subst h; simp [kv]
    | succ i => simp at h; rw [show (i + 1) * 2 + 1 = i * 2 + 1 + 1 + 1 by omega]; simpa [kv] using ih h
theorem kAt_of_box {w : World} {g cap : Nat} {K : List (Int × Nat)} {vs : List Value} (h : Box w g vs) (hv : vs.length = cap * 2) (hp : kv K <+: vs) (hm : cap ≤ maxLen) : KAt w g 0 cap K := by
  obtain ⟨r, rfl⟩ := hp
  have hlen := kv_length K
  refine ⟨h.lt, fun i k hk => ?_, fun i k hk => ?_, fun i hi => ?_, fun i hi => ?_, by simp at hv; omega, hm⟩
  · have hi : i < K.length := (List.getElem?_eq_some_iff.1 hk).1
    rw [Nat.zero_add]
    exact h.cell _ _ (by rw [List.getElem?_append_left (by omega)]; exact kv_num hk)
  · have hi : i < K.length := (List.getElem?_eq_some_iff.1 hk).1
    rw [Nat.zero_add]
    exact h.cell _ _ (by rw [List.getElem?_append_left (by omega)]; exact kv_ahd hk)
  · rw [Nat.zero_add, h.cell i _ (List.getElem?_eq_getElem (by omega))]; rfl
  · rw [Nat.zero_add]; exact h.free i (by omega)
theorem KAt.cells {w : World} {g off cap : Nat} {K : List (Int × Nat)} (h : KAt w g off cap K) : ∀ j v, (kv K)[j]? = some v → w.cell? ⟨g, off + j, none⟩ = some v := by
  intro j v hv
  have hj : j < K.length * 2 := by have := (List.getElem?_eq_some_iff.1 hv).1; rwa [kv_length] at this
  obtain ⟨k, hk⟩ : ∃ k, K[j / 2]? = some k := ⟨_, List.getElem?_eq_getElem (by omega)⟩
  rcases Nat.mod_two_eq_zero_or_one j with e | e
  · have e2 : j = j / 2 * 2 := by omega
    have h1 := kv_num hk
    have h2 := h.num _ _ hk
    rw [← e2] at h1 h2
    rw [hv] at h1
    cases h1
    exact h2
  · have e2 : j = j / 2 * 2 + 1 := by omega
    have h1 := kv_ahd hk
    have h2 := h.ahd _ _ hk
    rw [← e2] at h1
    rw [Nat.add_assoc, ← e2] at h2
    rw [hv] at h1
    cases h1
    exact h2
theorem KAt.snoc {w : World} {g off cap : Nat} {K : List (Int × Nat)} (h : KAt w g off cap K) (y : Int) (a : Nat) (hl : K.length < cap) :
    KAt ((w.setCell ⟨g, off + K.length * 2, none⟩ (.int .i64 y)).setCell ⟨g, off + K.length * 2 + 1, none⟩ (.int .i64 (a : Nat))) g off cap (K ++ [(y, a)]) := by
  obtain ⟨u0, hu0⟩ := Option.isSome_iff_exists.1 (h.spare (K.length * 2) (by omega))
  obtain ⟨u1, hu1⟩ := Option.isSome_iff_exists.1 (h.spare (K.length * 2 + 1) (by omega))
  rw [← Nat.add_assoc] at hu1
  have hother : ∀ j, j ≠ K.length * 2 → j ≠ K.length * 2 + 1 → ((w.setCell ⟨g, off + K.length * 2, none⟩ (.int .i64 y)).setCell ⟨g, off + K.length * 2 + 1, none⟩ (.int .i64 (a : Nat))).cell? ⟨g, off + j, none⟩ = w.cell? ⟨g, off + j, none⟩ := fun j h1 h2 => by
    rw [World.cell?_setCell_other _ _ _ _ (by intro e; have := congrArg Addr.off e; simp at this; omega), World.cell?_setCell_other _ _ _ _ (by intro e; have := congrArg Addr.off e; simp at this; omega)]
  have hn0 : ((w.setCell ⟨g, off + K.length * 2, none⟩ (.int .i64 y)).setCell ⟨g, off + K.length * 2 + 1, none⟩ (.int .i64 (a : Nat))).cell? ⟨g, off + K.length * 2, none⟩ = some (.int .i64 y) := by
    rw [World.cell?_setCell_other _ _ _ _ (by intro e; have := congrArg Addr.off e; simp at this)]
    exact World.cell?_setCell_same _ _ _ hu0
  have hn1 : ((w.setCell ⟨g, off + K.length * 2, none⟩ (.int .i64 y)).setCell ⟨g, off + K.length * 2 + 1, none⟩ (.int .i64 (a : Nat))).cell? ⟨g, off + K.length * 2 + 1, none⟩ = some (.int .i64 (a : Nat)) :=
    World.cell?_setCell_same _ _ _ (u := u1) (by rw [World.cell?_setCell_other _ _ _ _ (by intro e; have := congrArg Addr.off e; simp at this)]; exact hu1)
  have hcase : ∀ i k, (K ++ [(y, a)])[i]? = some k → K[i]? = some k ∧ i < K.length ∨ i = K.length ∧ k = (y, a) := fun i k hk => by
    by_cases hi : i < K.length
    · rw [List.getElem?_append_left hi] at hk; exact .inl ⟨hk, hi⟩
    · have : i < (K ++ [(y, a)]).length := (List.getElem?_eq_some_iff.1 hk).1
      simp at this
      obtain rfl : i = K.length := by omega
      simp at hk
      exact .inr ⟨rfl, hk.symm⟩
  refine ⟨by simpa [World.setCell] using h.lt, fun i k hk => ?_, fun i k hk => ?_, fun i hi => ?_, fun i hi => (World.frozen?_setCell _ _ _ _).trans ((World.frozen?_setCell _ _ _ _).trans (h.free i hi)), by simp; omega, h.most⟩
  · rcases hcase i k hk with ⟨hk, hi⟩ | ⟨rfl, rfl⟩
    · rw [hother _ (by omega) (by omega)]; exact h.num i k hk
    · exact hn0
  · rcases hcase i k hk with ⟨hk, hi⟩ | ⟨rfl, rfl⟩
    · have e := hother (i * 2 + 1) (by omega) (by omega)
      simp only [← Nat.add_assoc] at e
      rw [e]; exact h.ahd i k hk
    · exact hn1
  · by_cases h1 : i = K.length * 2
    · subst h1; rw [hn0]; rfl
    · by_cases h2 : i = K.length * 2 + 1
      · subst h2; rw [← Nat.add_assoc, hn1]; rfl
      · rw [hother i h1 h2]; exact h.spare i hi
theorem info_kept : (Try.prog.info? 115).map (fun i => (i.zero, i.size, i.bytes)) = some (some (.agg #[.int .i64 0, .int .i64 0]), 2, 16) := by kernel_rfl
/-- What an append leaves: nothing else has turned. -/
def Grew (w : World) (b g g' : Nat) (lv : Value) (K : List (Int × Nat)) (w' : World) : Prop := KSl w' b g' lv K ∧ (∃ S, Turn S w w' ∧ b ∉ S ∧ ∀ i, i ∈ S → i = g) ∧ (g' = g ∨ w.heap.size ≤ g')
theorem run_append_k (ty : TypeId) (w : World) (b g : Nat) (lv : Value) (K : List (Int × Nat)) (hb : b < w.heap.size) (h : KSl w b g lv K) (hl : K.length < 8796093022208) (ad : Addr) (y : Int) (a : Nat) (hy : ∀ j u, [Value.int .i64 y, .int .i64 (a : Nat)][j]? = some u → w.cell? (ad.add j) = some u) :
    ∃ g' off' cap' w', (Builtin.append_ #[87, 87] ty #[lv, .slice (some ad) 1 1]).run Try.prog w = .ok (.slice (some ⟨g', off', none⟩) (K.length + 1) cap') w' ∧
      Grew w b g g' (.slice (some ⟨g', off', none⟩) (K.length + 1) cap') (K ++ [(y, a)]) w' := by
  obtain ⟨i0, hi, hz0, hz1, hz2⟩ := info_parts info_kept
  have hmax : ∀ n old, n ≤ 8796093022208 → grownCap w n old 115 ≤ maxLen := fun n old hn => grownCap_le_maxLen w n old _ (by simp only [maxLen]; omega)
  have grown : ∀ (old : Nat), KAt (w.drew.alloc (.cells ((kv K).toArray ++ #[.int .i64 y, .int .i64 (a : Nat)] ++ Builtin.zeroCells (Value.agg #[.int .i64 0, .int .i64 0]).cells (grownCap w (K.length + 1) old 115 - (K.length + 1))) 115)) w.heap.size 0 (grownCap w (K.length + 1) old 115) (K ++ [(y, a)]) := by
    intro old
    have hge := grownCap_ge w (K.length + 1) old 115
    refine kAt_of_box (Box.ofBlock (t := 115) (cur := (kv K).toArray ++ #[.int .i64 y, .int .i64 (a : Nat)] ++ Builtin.zeroCells (Value.agg #[.int .i64 0, .int .i64 0]).cells (grownCap w (K.length + 1) old 115 - (K.length + 1))) (heap_new w.drew _)) ?_ ?_ (hmax _ _ (by omega))
    · simp [kv_length, size_zeroCells, Value.cells]; omega
    · exact ⟨_, by simp [kv_append, kv]; rfl⟩
  have gturn : ∀ (S : List Nat) (o : Obj), Turn S w (w.drew.alloc o) := fun _ o => Turn.of_below (((Below.refl _ _).drew).alloc (Nat.le_refl _) _)
  rcases h with ⟨rfl, rfl, hg⟩ | ⟨hgb, off, cap, rfl, h⟩
  · have hr := run_append_nil (P := Try.prog) w 87 ty 115 i0 (.agg #[.int .i64 0, .int .i64 0]) Try.underlying87 hi hz0 ad 1 1 [.int .i64 y, .int .i64 (a : Nat)] (by rw [hz1]; rfl) hy (by decide) (by decide) (by rw [hz2]; decide)
    exact ⟨w.heap.size, 0, _, _, hr, .inr ⟨by omega, 0, _, rfl, by simpa [kv] using grown 0⟩, ⟨[], gturn _ _, by simp, by simp⟩, .inr (Nat.le_refl _)⟩
  · by_cases hc : K.length + 1 ≤ cap
    · have hr := run_append_room_cells (P := Try.prog) w 87 ty 115 i0 Try.underlying87 hi g off K.length cap ad 1 1 [.int .i64 y, .int .i64 (a : Nat)] (by rw [hz1]; rfl) hy (by simp [Value.oneCell']) hc (fun j hj => by
          have : j < 2 := by simpa using hj
          rw [hz1, Nat.add_assoc]; exact h.spare _ (by omega)) (fun j hj => by
          have : j < 2 := by simpa using hj
          rw [hz1, Nat.add_assoc]; exact h.free _ (by omega))
      rw [hz1] at hr
      refine ⟨g, off, cap, _, hr, .inr ⟨hgb, off, cap, by simp, ?_⟩, ⟨[g], ?_, by simpa using Ne.symm hgb, by simp⟩, .inl rfl⟩
      · simpa [World.setCells] using h.snoc y a (by omega)
      · simpa [World.setCells] using (Turn.set (S := [g]) w ⟨g, off + K.length * 2, none⟩ (.int .i64 y) (by simp)).andSet ⟨g, off + K.length * 2 + 1, none⟩ (.int .i64 (a : Nat)) (.inl (by simp))
    · have hr := run_append_grow (P := Try.prog) w 87 ty 115 i0 (.agg #[.int .i64 0, .int .i64 0]) Try.underlying87 hi hz0 ⟨g, off, none⟩ K.length cap (kv K) (by rw [hz1]; exact kv_length K) (fun j v hv => by
          have := h.cells j v hv
          by_cases hj : j = 0
          · subst hj; simpa [Addr.add] using this
          · simpa [Addr.add, hj] using this) ad 1 1 [.int .i64 y, .int .i64 (a : Nat)] (by rw [hz1]; rfl) hy (by have := h.le; omega) (by omega) (growslice_fits (by have := h.le; omega) (by rw [hz2]; omega))
      exact ⟨w.heap.size, 0, _, _, hr, .inr ⟨by omega, 0, _, by simp, grown cap⟩, ⟨[], gturn _ _, by simp, by simp⟩, .inr (Nat.le_refl _)⟩
theorem wpList_append_k (w : World) {ops : Array Oper} {rest : List Oper} {o : Oper} {a : Act} {Q : Exit → Act → World → Prop} (hgd : o.guard = none) (s x : Operand)
    (hop : o.op = Op.call { callee := Callee.builtin Builtin.append, args := #[s, x], argTypes := #[87, 87] }) (b g : Nat) (lv : Value) (K : List (Int × Nat)) (hs : a.eval s = lv) (hb : b < w.heap.size) (h : KSl w b g lv K) (hl : K.length < 8796093022208)
    (ad : Addr) (y : Int) (c : Nat) (hx : a.eval x = .slice (some ad) 1 1) (hy : ∀ j u, [Value.int .i64 y, .int .i64 (c : Nat)][j]? = some u → w.cell? (ad.add j) = some u)
    (hK : ∀ g' off' cap' w', Grew w b g g' (.slice (some ⟨g', off', none⟩) (K.length + 1) cap') (K ++ [(y, c)]) w' → wpList Try.prog ops Q rest (a.put o.dst (.slice (some ⟨g', off', none⟩) (K.length + 1) cap')) w') :
    wpList Try.prog ops Q (o :: rest) a w := by
  refine wpList_plain hgd fun K hK' => ?_
  obtain ⟨g', off', cap', w', hrun, r⟩ := run_append_k o.type w b g lv _ hb h hl ad y c hy
  unfold Oper.wp
  simp [execOp, hop, resolve, invoke, builtin, hs, hx, hrun, Result.andThen]
  exact hK' _ _ (hK g' off' cap' w' r)
theorem Turn.widen {S S' : List Nat} {w w' : World} (h : Turn S w w') (hs : ∀ i, i ∈ S → i ∈ S') : Turn S' w w' := ⟨h.os, h.tape, h.output, h.size, fun k hk hn => h.block k hk (fun hm => hn (hs k hm))⟩
theorem cell_two_new (w : World) (x y : Value) (t : TypeId) : ∀ j u, [x, y][j]? = some u → (w.alloc (.cells #[x, y] t)).cell? ((⟨w.heap.size, 0, none⟩ : Addr).add j) = some u := by
  intro j u hu
  have hj : j < 2 := (List.getElem?_eq_some_iff.1 hu).1
  have := (Box.new w [x, y] t).cell j u hu
  obtain rfl | rfl : j = 0 ∨ j = 1 := by omega
  · simpa [Addr.add] using this
  · simpa [Addr.add] using this
/-- What a call leaves that takes and answers nothing but turns the queue. -/
def Puts (w : World) (b g : Nat) (h : Bool) (L : List Int) (e : Ending) (w' : World) : Prop := e = .returned (.tuple #[]) ∧ ∃ g', Mo w' b g' h L ∧ Turn [b, g] w w' ∧ (g' = g ∨ w.heap.size ≤ g')
theorem puts_end {w w1 w2 wb : World} {b g g' off' cap' fg : Nat} {h : Bool} {L : List Int} {v : Int} {lv : Value} {K : List (Int × Nat)} (hK : K = stay h v (rep h L)) (hfg : fg = tot (gone h v (rep h L))) (hbox : Box w1 b [.bool h, .int .i64 (L.length : Nat), lv]) (t1 : Turn [b] w w1) (t0 : Below w1.heap.size w1 wb)
    (hg : Grew wb b g g' (.slice (some ⟨g', off', none⟩) (K.length + 1) cap') (K ++ [(v, fg)]) w2) :
    Box w2 b [.bool h, .int .i64 (L.length : Nat), lv] ∧ Puts w b g h (L ++ [v]) (.returned (.tuple #[])) ((w2.setCell ⟨b, 2, none⟩ (.slice (some ⟨g', off', none⟩) (K.length + 1) cap')).setCell ⟨b, 1, none⟩ (.int .i64 ((L.length : Int) + 1))) := by
  obtain ⟨hs, ⟨S, ht, hbS, hS⟩, ho⟩ := hg
  have hb1 := hbox.lt
  have sz1 := t1.size
  have sz0 := t0.size
  have hbox2 := (hbox.next t0).turn ht hbS
  have hgb : g' ≠ b := by
    rcases hs with ⟨e, _⟩ | ⟨e, _⟩
    · cases e
    · exact e
  refine ⟨hbox2, rfl, g', ⟨.slice (some ⟨g', off', none⟩) (K.length + 1) cap', ?_, ?_⟩, ?_, ?_⟩
  · have := (hbox2.set 2 (by simp) (.slice (some ⟨g', off', none⟩) (K.length + 1) cap')).set 1 (by simp) (.int .i64 ((L.length : Int) + 1))
    simpa using this
  · rw [rep_put, ← hK, ← hfg]
    exact (hs.turn (S := [b]) (Turn.set _ _ _ (by simp)) (by simp)).turn (S := [b]) (Turn.set _ _ _ (by simp)) (by simp)
  · refine (((((t1.widen (by simp)).andBelow t0).trans ht ?_)).andSet _ _ (.inl (by simp))).andSet _ _ (.inl (by simp))
    intro i hi
    have := hS i hi
    subst this
    exact .inl (by simp)
  · rcases ho with e | e
    · exact .inl e
    · exact .inr (by omega)
set_option maxRecDepth 20000 in
set_option maxHeartbeats 1000000 in
theorem mPut (b g : Nat) (h : Bool) (L : List Int) (v : Int) (w : World) (x : Mo w b g h L) (hl : L.length < 8796093022208) :
    Calls Try.prog 43 #[.pointer (some ⟨b, 0, none⟩), .int .i64 v] w (Puts w b g h (L ++ [v])) := by
  have hlt := x.lt
  have HX := hid x
  clear x
  go_enter Try.func43, Try.ntmps43
  go_wp2_with fail
  refine Calls.mono (mForget b g h L v w HX.out hl) ?_
  rintro e w1 ⟨rfl, lv, hbox, hsl, ht⟩
  obtain ⟨a, c, hlv⟩ := hsl.shape
  subst hlv
  obtain ⟨c0, c1, c2, f0, f1, f2⟩ := hbox.three
  have hlt1 := hbox.lt
  obtain ⟨fg, hfg⟩ : ∃ fg, fg = tot (gone h v (rep h L)) := ⟨_, rfl⟩
  obtain ⟨K, hK⟩ : ∃ K, K = stay h v (rep h L) := ⟨_, rfl⟩
  have hKl : K.length < 8796093022208 := by
    have h1 := kept_length h L
    have h2 : (stay h v (rep h L)).length ≤ (rep h L).length := List.length_filter_le _ _
    rw [hK]; simp [kept] at h1; omega
  rw [← hfg]
  rw [← hK] at c2 hbox hsl
  have HB := hid hbox
  have HSL := hid hsl
  have HT := hid ht
  have HFG := hid hfg
  have HK := hid hK
  have hwn := cell_two_new w1 (.int .i64 v) (.int .i64 (fg : Nat)) 115
  have HN := hid hwn
  clear hbox hsl ht hfg hK hwn
  go_wp2_with (at_builtin; refine wpList_append_k _ rfl _ _ rfl b g (.slice a K.length c) K rfl (by simpa using (Nat.lt_succ_of_lt hlt1)) (HSL.out.turn (S := []) (Turn.of_below ((Below.refl _ _).alloc (Nat.le_refl _) _)) (by simp)) hKl ⟨w1.heap.size, 0, none⟩ v fg rfl HN.out ?_; intro g' off' cap' w2 hg; obtain ⟨hbx, hend⟩ := puts_end HK.out HFG.out HB.out HT.out ((Below.refl _ _).alloc (Nat.le_refl _) _) hg; obtain ⟨d0, d1, d2, e0, e1, e2⟩ := hbx.three; have hlt2 := hbx.lt; have HE := hid hend; clear hend hg hbx)
  go_end0
  exact HE.out
end Go.Proofs.Ytccgbkafcbfcgaa

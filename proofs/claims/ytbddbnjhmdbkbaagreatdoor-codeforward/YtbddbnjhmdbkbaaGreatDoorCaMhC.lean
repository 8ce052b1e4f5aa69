import Derived.Test.YtbddbnjhmdbkbaaGreatDoorCaMhY
namespace Go.Proofs.YtbddbnjhmdbkbaaGreatDoor
open Go.RowKit

theorem errV_pos {x : Int} (h : x ≠ 0) (p : Rs) (hp : p = noR x) : resV p = .tuple #[.int .i64 0, .iface 238 (.agg #[.int .i64 x])] := by
  subst hp
  show Value.tuple #[.int .i64 0, errV x] = _
  rw [errV_n h]
theorem resV_ok {n : Int} (p : Rs) (hp : p = okR n) : resV p = .tuple #[.int .i64 n, .nilIface] := by
  subst hp
  show Value.tuple #[.int .i64 n, errV 0] = _
  rw [errV_0]
theorem wk_own (E : EnvP) (t : Co) (k : Nat) (hk : k = 1 ∨ k = 2) (hop : t.op = (k : Int)) : WkC E k t := by
  intro v tb b w f q hs ht hw
  have hf : f = 132 ∧ q = #[] := by
    rcases hk with rfl | rfl <;> (cases hw; exact ⟨rfl, rfl⟩)
  obtain ⟨rfl, rfl⟩ := hf
  have hT : telV E t = okR t.n := by rw [telV_eq, hop]; rcases hk with rfl | rfl <;> rfl
  rw [resV_ok _ hT]
  obtain ⟨ad, cap, rfl, -, -⟩ := hs.parts.shape
  clear hs ht hw hT
  go_enter Tryz.func132, Tryz.ntmps132
  go_wp2_with fail
  go_ret2
  exact ⟨rfl, (Below.refl _ _).alloc (Nat.le_refl _) _⟩
theorem wk_rep (E : EnvP) (t : Co) (hop : t.op = 3) : WkC E 3 t := by
  intro v tb b w f q hs ht hw
  cases hw
  have hT : telV E t = okR (held (E.rep * 1000000)) := by rw [telV_eq, hop]; rfl
  rw [resV_ok _ hT]
  obtain ⟨ad, cap, rfl, -, -⟩ := hs.parts.shape
  obtain ⟨-, s1, sl⟩ := ht.cell0
  have HW := chid (fun W => Whole_any E.rep ht.ok.rep.1 (by have := ht.ok.rep.2; omega) W)
  have A : ∀ o, Below w.heap.size w (w.alloc o) := fun o => (Below.refl _ _).alloc (Nat.le_refl _) _
  have HA := chid A
  clear hs ht hT A
  go_enter Tryz.func135, Tryz.ntmps135
  go_wp2_with fail
  refine Calls.mono (HW.out _) ?_
  rintro e w1 ⟨rfl, b1⟩
  have HB := chid (cbelow_on (HA.out _) b1 (by simp))
  clear b1
  go_wp2_with fail
  go_ret2
  exact ⟨rfl, HB.out⟩
theorem wk_fail (E : EnvP) (t : Co) (hop : t.op = 6) (hn : t.n ≠ 0) : WkC E 6 t := by
  intro v tb b w f q hs ht hw
  cases hw
  have hT : telV E t = noR t.n := by rw [telV_eq, hop]; rfl
  rw [errV_pos hn _ hT]
  have hf := hs.fit.n
  obtain ⟨ad, cap, rfl, -, -⟩ := hs.parts.shape
  have A : ∀ o, Below w.heap.size w (w.alloc o) := fun o => (Below.refl _ _).alloc (Nat.le_refl _) _
  have HA := chid A
  have f1 := hf.1
  have f2 : t.n < 9223372036854775808 := by have := hf.2; omega
  clear hs ht hT A hf
  go_enter Tryz.func142, Tryz.ntmps142
  go_wp2_with fail
  go_quiet (fail)
  go_wp2_with fail
  go_ret2
  exact ⟨rfl, cdrewN (HA.out _) _⟩
theorem wk_hold (E : EnvP) (t : Co) (hop : t.op = 29) : WkC E 29 t := by
  intro v tb b w f q hs ht hw
  cases hw
  have hT : telV E t = noR 4 := by rw [telV_eq, hop]; rfl
  rw [errV_pos (by decide) _ hT]
  obtain ⟨ad, cap, rfl, -, -⟩ := hs.parts.shape
  have A : ∀ o, Below w.heap.size w (w.alloc o) := fun o => (Below.refl _ _).alloc (Nat.le_refl _) _
  have HA := chid A
  clear hs ht hT A
  go_enter Tryz.func172, Tryz.ntmps172
  go_wp2_with fail
  go_ret2
  exact ⟨rfl, HA.out _⟩
set_option maxHeartbeats 1000000 in
theorem truthOf_c (h : Bool) (w : World) : Calls Tryz.prog 217 #[.bool h] w fun e w' => e = .returned (.int .i64 (b2i h)) ∧ w' = w := by
  cases h
  · go_enter Tryz.func217, Tryz.ntmps217
    go_wp2_with fail
    go_ret
    exact ⟨rfl, rfl⟩
  · go_enter Tryz.func217, Tryz.ntmps217
    go_wp2_with fail
    go_ret
    exact ⟨rfl, rfl⟩
set_option maxHeartbeats 1000000 in
theorem wk_cron (E : EnvP) (t : Co) (hop : t.op = 5) (h0 : 0 ≤ t.n) (h1 : t.n < E.crons.length) : WkC E 5 t := by
  intro v tb b w f q hs ht hw
  cases hw
  have hT : telV E t = okR (b2i (E.crons.getD t.n.toNat false)) := by rw [telV_eq, hop]; rfl
  rw [resV_ok _ hT]
  obtain ⟨ad, cap, rfl, -, -⟩ := hs.parts.shape
  obtain ⟨v1, v2, hb, -, hc⟩ := ht.bx
  obtain ⟨ad2, cap2, rfl, e | ⟨g, off, rfl, hg, hcs⟩⟩ := hc
  · rw [e] at h1; simp at h1; omega
  obtain ⟨n, hn⟩ : ∃ n : Nat, t.n = (n : Int) := ⟨t.n.toNat, by omega⟩
  have hnl : n < E.crons.length := by omega
  have hc1 := hcs n hnl
  rw [hn, Int.toNat_natCast] at hT ⊢
  rw [hn] at h1
  have s3 := hb.cell 3 _ rfl
  have sl := hb.lt
  generalize E.crons.getD n false = x at *
  have HC := chid (fun W => truthOf_c x W)
  have A : ∀ o, Below w.heap.size w (w.alloc o) := fun o => (Below.refl _ _).alloc (Nat.le_refl _) _
  have HA := chid A
  have hn' : (coV t (.slice ad t.parts.length cap)) = .agg #[.int .i64 t.op, .int .i64 (n : Int), .int .i64 t.m, .slice ad t.parts.length cap] := by simp only [coV, hn]
  rw [hn']
  clear hs ht hT A hb hcs h0 hn'
  generalize E.crons.length = L at *
  go_enter Tryz.func139, Tryz.ntmps139
  go_wp2_with fail
  go_quiet (first | (go_at_call 217; refine Calls.quiet_of_same (HC.out _)))
  go_wp2_with fail
  go_ret2
  exact ⟨rfl, cdrewN (HA.out _) _⟩
set_option maxHeartbeats 1000000 in
theorem wk_win (E : EnvP) (t : Co) (hop : t.op = 4) (h0 : 0 ≤ t.n) (h1 : t.n < E.wins.length) : WkC E 4 t := by
  intro v tb b w f q hs ht hw
  cases hw
  obtain ⟨op, tn, tm, ps⟩ := t
  obtain rfl : op = 4 := hop
  dsimp only at h0 h1
  obtain ⟨n, rfl⟩ : ∃ n : Nat, tn = (n : Int) := ⟨tn.toNat, by omega⟩
  generalize ht' : (⟨4, n, tm, ps⟩ : Co) = t at *
  obtain ⟨x, hx⟩ : ∃ x, Hid (x = E.wins.getD n (0, 0)) := ⟨_, rfl⟩
  have hT : telV E t = if x.1 = 0 then okR x.2 else noR x.1 := by rw [hx.out, ← ht', telV_eq]; rfl
  obtain ⟨ad, cap, rfl, -, -⟩ := hs.parts.shape
  generalize t.parts.length = N at *
  obtain ⟨v1, v2, hb, hc, -⟩ := ht.bx
  obtain ⟨ad2, cap2, rfl, e | ⟨g, off, rfl, hg, hcs⟩⟩ := hc
  · rw [e] at h1; simp at h1; omega
  have hnl : n < E.wins.length := by omega
  obtain ⟨g0, g1⟩ := hcs n hnl
  rw [← hx.out] at g0 g1
  have hx1 := (ht.ok.wins n).1
  rw [← hx.out] at hx1
  have s2 := hb.cell 2 _ rfl
  have sl := hb.lt
  have A : ∀ o, Below w.heap.size w (w.alloc o) := fun o => (Below.refl _ _).alloc (Nat.le_refl _) _
  have HA := chid A
  have hn' : (coV t (.slice ad N cap)) = .agg #[.int .i64 4, .int .i64 (n : Int), .int .i64 tm, .slice ad N cap] := by rw [← ht']
  rw [hn']
  generalize E.wins.length = L at *
  have X0 := Box.new w [.int .i64 4, .int .i64 (n : Int), .int .i64 tm, .slice ad N cap] 30
  have ka := HA.out (.cells [.int .i64 4, .int .i64 (n : Int), .int .i64 tm, .slice ad N cap].toArray 30)
  have d2 := (ka.cell (p := ⟨tb, 2, none⟩) sl).trans s2
  have d0 := (ka.cell (p := ⟨g, _, none⟩) hg).trans g0
  have d1 := (ka.cell (p := ⟨g, _, none⟩) hg).trans g1
  have c1 := X0.cell 1 _ rfl
  have x0 := X0.lt
  have k0 : g < (w.alloc (.cells [.int .i64 4, .int .i64 (n : Int), .int .i64 tm, .slice ad N cap].toArray 30)).heap.size := Nat.lt_of_lt_of_le hg ka.size
  have k1 : tb < (w.alloc (.cells [.int .i64 4, .int .i64 (n : Int), .int .i64 tm, .slice ad N cap].toArray 30)).heap.size := Nat.lt_of_lt_of_le sl ka.size
  have HKa := chid ka
  have HT := chid hT
  clear hs ht hT A hb hcs h0 hn' HA X0 ka s2 g0 g1 ht'
  obtain ⟨x1, x2⟩ := x
  dsimp only at d0 d1 hx1
  go_enter Tryz.func137, Tryz.ntmps137
  go_wp2_with fail
  generalize hW0 : w.alloc _ = w0 at *
  clear hW0
  go_region_held3 (fun w' => w'.cell? ⟨tb, 2, none⟩ = some (.slice (some ⟨g, off, none⟩) L cap2) ∧ w'.cell? ⟨w.heap.size, 1, none⟩ = some (.int .i64 (n : Int)) ∧ (w'.cell? ⟨g, off + n * 2, none⟩ = some (.int .i64 x1) ∧ w'.cell? ⟨g, off + n * 2 + 1, none⟩ = some (.int .i64 x2))) (simp [go_sem, *]) (fail)
  have b1 := cdrewN ((Below.refl w0.heap.size w0).alloc (Nat.le_refl _) (.cells [.int .i64 x1, .int .i64 x2].toArray 84)) 1
  have Z0 := (Box.new w0 [.int .i64 x1, .int .i64 x2] 84).next (cdrewN (Below.refl _ _) 1)
  change Box (w0.alloc (.cells #[.int .i64 x1, .int .i64 x2] 84)).drew w0.heap.size _ at Z0
  change Below w0.heap.size w0 (w0.alloc (.cells #[.int .i64 x1, .int .i64 x2] 84)).drew at b1
  generalize (w0.alloc (.cells #[.int .i64 x1, .int .i64 x2] 84)).drew = w1 at *
  have HB1 := chid (cbelow_on HKa.out b1 HKa.out.size)
  have z0 := Z0.cell 0 _ rfl
  have z1 := Z0.cell 1 _ rfl
  have z2 := Z0.lt
  clear d0 d1 d2 c1 x0 k0 k1 HKa b1 Z0
  by_cases hz : x1 = 0
  · have hT : telV E t = okR x2 := by rw [HT.out]; exact if_pos hz
    have HT2 := chid hT
    clear hT HT
    subst hz
    go_wp2_with fail
    go_ret2
    exact ⟨by rw [resV_ok _ HT2.out]; rfl, HB1.out⟩
  · have hT : telV E t = noR x1 := by rw [HT.out]; exact if_neg hz
    have HT2 := chid hT
    have HZ := chid hz
    clear hT HT
    have k : (x1 != 0) = true := by simpa using hz
    go_wp2_with fail
    go_quiet (fail)
    go_wp2_with fail
    go_ret2
    exact ⟨by rw [errV_pos HZ.out _ HT2.out]; rfl, cdrewN HB1.out _⟩

theorem parts1 {w : World} {v : Value} {x0 : Co} (h : CAt w v [x0]) : ∃ pb off cap u0, v = .slice (some ⟨pb, off, none⟩) 1 cap ∧ 1 ≤ cap ∧ cap ≤ 9223372036854775807 ∧ pb < w.heap.size ∧ Four w pb off x0 u0 ∧ CSits w x0 u0 := by
  obtain ⟨pb, off, cap, e, h1, h2, h3, hx⟩ := h.open (by simp)
  obtain ⟨u0, f0, s0⟩ := hx 0 (by simp)
  exact ⟨pb, off, cap, u0, e, h1, h2, h3, by simpa using f0, s0⟩
theorem parts2 {w : World} {v : Value} {x0 x1 : Co} (h : CAt w v [x0, x1]) : ∃ pb off cap u0 u1, v = .slice (some ⟨pb, off, none⟩) 2 cap ∧ 2 ≤ cap ∧ cap ≤ 9223372036854775807 ∧ pb < w.heap.size ∧ Four w pb off x0 u0 ∧ CSits w x0 u0 ∧ Four w pb (off + 4) x1 u1 ∧ CSits w x1 u1 := by
  obtain ⟨pb, off, cap, e, h1, h2, h3, hx⟩ := h.open (by simp)
  obtain ⟨u0, f0, s0⟩ := hx 0 (by simp)
  obtain ⟨u1, f1, s1⟩ := hx 1 (by simp)
  exact ⟨pb, off, cap, u0, u1, e, h1, h2, h3, by simpa using f0, s0, by simpa using f1, s1⟩
theorem parts3 {w : World} {v : Value} {x0 x1 x2 : Co} (h : CAt w v [x0, x1, x2]) : ∃ pb off cap u0 u1 u2, v = .slice (some ⟨pb, off, none⟩) 3 cap ∧ 3 ≤ cap ∧ cap ≤ 9223372036854775807 ∧ pb < w.heap.size ∧ Four w pb off x0 u0 ∧ CSits w x0 u0 ∧ Four w pb (off + 4) x1 u1 ∧ CSits w x1 u1 ∧ Four w pb (off + 8) x2 u2 ∧ CSits w x2 u2 := by
  obtain ⟨pb, off, cap, e, h1, h2, h3, hx⟩ := h.open (by simp)
  obtain ⟨u0, f0, s0⟩ := hx 0 (by simp)
  obtain ⟨u1, f1, s1⟩ := hx 1 (by simp)
  obtain ⟨u2, f2, s2⟩ := hx 2 (by simp)
  exact ⟨pb, off, cap, u0, u1, u2, e, h1, h2, h3, by simpa using f0, s0, by simpa using f1, s1, by simpa using f2, s2⟩
set_option maxHeartbeats 1000000 in
theorem wk_memo (E : EnvP) (tn tm : Int) (x0 : Co) (H0 : TeC E x0) : WkC E 7 ⟨7, tn, tm, [x0]⟩ := by
  intro v tb b w f q hs ht hw
  cases hw
  obtain ⟨Rv, hRv⟩ : ∃ Rv, Hid (Rv = resV (telV E ⟨7, tn, tm, [x0]⟩)) := ⟨_, rfl⟩
  rw [← hRv.out]
  have hT : Hid (Rv = resV (telV E x0)) := by rw [telV_eq] at hRv; exact hRv
  obtain ⟨pb, off, cap, u0, rfl, k1, k2, lp, f0, s0⟩ := parts1 hs.parts
  obtain ⟨a0, n0, rfl, -, -⟩ := s0.parts.shape
  have A : ∀ o, Below w.heap.size w (w.alloc o) := fun o => (Below.refl _ _).alloc (Nat.le_refl _) _
  have HC0 := chid (fun W (hW : Below w.heap.size w W) => H0 _ tb b W (s0.next hW) (ht.next hW))
  obtain ⟨p0, p1, p2, p3⟩ := f0
  have HA := chid A
  clear hs ht A s0 hRv
  generalize telV E x0 = r0 at *
  go_enter Tryz.func145, Tryz.ntmps145
  go_wp2_with fail
  refine Calls.mono (HC0.out _ (HA.out _)) ?_
  rintro e w1 ⟨rfl, b1⟩
  have HB := chid (cbelow_on (HA.out _) b1 (by simp))
  clear b1 HC0 HA p0 p1 p2 p3
  go_wp2_with fail
  go_ret2
  exact ⟨by rw [hT.out]; rfl, HB.out⟩

theorem resV_err (n : Int) {e : Int} (h : e ≠ 0) : resV (n, e) = .tuple #[.int .i64 n, .iface 238 (.agg #[.int .i64 e])] := by
  show Value.tuple #[.int .i64 n, errV e] = _
  rw [errV_n h]
set_option maxHeartbeats 1000000 in
theorem wk_and (E : EnvP) (tn tm : Int) (x0 x1 : Co) (H0 : TeC E x0) (H1 : TeC E x1) : WkC E 25 ⟨25, tn, tm, [x0, x1]⟩ := by
  intro v tb b w f q hs ht hw
  cases hw
  obtain ⟨Rv, hRv⟩ : ∃ Rv, Hid (Rv = resV (telV E ⟨25, tn, tm, [x0, x1]⟩)) := ⟨_, rfl⟩
  rw [← hRv.out]
  rw [telV_eq] at hRv
  obtain ⟨pb, off, cap, u0, u1, rfl, k1, k2, lp, f0, s0, f1, s1⟩ := parts2 hs.parts
  obtain ⟨a0, n0, rfl, -, -⟩ := s0.parts.shape
  have HC0 := chid (fun W (hW : Below w.heap.size w W) => H0 _ tb b W (s0.next hW) (ht.next hW))
  obtain ⟨a1, n1, rfl, -, -⟩ := s1.parts.shape
  have HC1 := chid (fun W (hW : Below w.heap.size w W) => H1 _ tb b W (s1.next hW) (ht.next hW))
  have HA : Hid (∀ o, Below w.heap.size w (w.alloc o)) := fun o => (Below.refl _ _).alloc (Nat.le_refl _) _
  have HF0 := chid f0
  have HF1 := chid f1
  obtain ⟨p0, p1, p2, p3⟩ := f0
  have HX := chid (Box.new w (coL ⟨25, tn, tm, [x0, x1]⟩ (.slice (some ⟨pb, off, none⟩) 2 cap)) 30)
  clear hs ht s0 s1
  have hT : Hid (Rv = resV (if (telV E x0).2 = 0 ∧ (telV E x0).1 ≠ 0 then (telV E x1) else noR (telV E x0).2)) := hRv
  clear hRv
  generalize telV E x0 = r0 at *
  generalize telV E x1 = r1 at *
  obtain ⟨n0', e0⟩ := r0
  dsimp only at hT
  by_cases he : e0 = 0
  case neg =>
    have hR : Hid (Rv = Value.tuple #[.int .i64 0, .iface 238 (.agg #[.int .i64 e0])]) := by show _ = _; rw [hT.out, if_neg (fun h => he h.1)]; exact resV_err _ he
    go_enter Tryz.func166, Tryz.ntmps166
    go_wp2_with fail
    refine Calls.mono (HC0.out _ (HA.out _)) ?_
    rintro e w1 ⟨he1, b1⟩
    rw [resV_err n0' he] at he1
    subst he1
    have HB := chid (cbelow_on (HA.out _) b1 (by simp))
    have X1 := HX.out.next b1
    have c0 := X1.cell 0 _ rfl
    have c1 := X1.cell 1 _ rfl
    have c2 := X1.cell 2 _ rfl
    have c3 := X1.cell 3 _ rfl
    have x1l := X1.lt
    clear b1 HC0 HX X1 p0 p1 p2 p3
    clear hT
    go_wp2_with fail
    go_ret2
    exact ⟨by rw [hR.out]; rfl, HB.out⟩
  subst he
  by_cases hz : n0' = 0
  · subst hz
    have hR : Hid (Rv = Value.tuple #[.int .i64 0, .nilIface]) := by show _ = _; rw [hT.out, if_neg (by simp)]; exact resV_ok _ rfl
    go_enter Tryz.func166, Tryz.ntmps166
    go_wp2_with fail
    refine Calls.mono (HC0.out _ (HA.out _)) ?_
    rintro e w1 ⟨he1, b1⟩
    rw [resV_ok (0, 0) rfl] at he1
    subst he1
    have HB := chid (cbelow_on (HA.out _) b1 (by simp))
    have X1 := HX.out.next b1
    have c0 := X1.cell 0 _ rfl
    have c1 := X1.cell 1 _ rfl
    have c2 := X1.cell 2 _ rfl
    have c3 := X1.cell 3 _ rfl
    have x1l := X1.lt
    clear b1 HC0 HX X1 p0 p1 p2 p3
    clear hT
    go_wp2_with fail
    go_ret2
    exact ⟨by rw [hR.out]; rfl, HB.out⟩
  · have hR : Hid (Rv = resV r1) := by show _ = _; rw [hT.out, if_pos ⟨rfl, hz⟩]
    have kz : (n0' == 0) = false := by simpa using hz
    go_enter Tryz.func166, Tryz.ntmps166
    go_wp2_with fail
    refine Calls.mono (HC0.out _ (HA.out _)) ?_
    rintro e w1 ⟨he1, b1⟩
    rw [resV_ok (n0', 0) rfl] at he1
    subst he1
    have HB := chid (cbelow_on (HA.out _) b1 (by simp))
    have X1 := HX.out.next b1
    have c0 := X1.cell 0 _ rfl
    have c1 := X1.cell 1 _ rfl
    have c2 := X1.cell 2 _ rfl
    have c3 := X1.cell 3 _ rfl
    have x1l := X1.lt
    clear b1 HC0 HX X1 p0 p1 p2 p3
    clear hT
    obtain ⟨p0, p1, p2, p3⟩ := HF1.out.keep (w' := w1) (fun j => HB.out.cell (p := ⟨pb, j, none⟩) lp)
    have lp1 := Nat.lt_of_lt_of_le lp HB.out.size
    go_wp2_with fail
    refine Calls.mono (HC1.out _ HB.out) ?_
    rintro e w2 ⟨rfl, b2⟩
    have HB2 := chid (cbelow_on HB.out b2 HB.out.size)
    clear b2 p0 p1 p2 p3
    go_wp2_with fail
    go_ret2
    exact ⟨by rw [hR.out]; rfl, HB2.out⟩
set_option maxHeartbeats 1000000 in
theorem wk_or (E : EnvP) (tn tm : Int) (x0 x1 : Co) (H0 : TeC E x0) (H1 : TeC E x1) : WkC E 26 ⟨26, tn, tm, [x0, x1]⟩ := by
  intro v tb b w f q hs ht hw
  cases hw
  obtain ⟨Rv, hRv⟩ : ∃ Rv, Hid (Rv = resV (telV E ⟨26, tn, tm, [x0, x1]⟩)) := ⟨_, rfl⟩
  rw [← hRv.out]
  rw [telV_eq] at hRv
  obtain ⟨pb, off, cap, u0, u1, rfl, k1, k2, lp, f0, s0, f1, s1⟩ := parts2 hs.parts
  obtain ⟨a0, n0, rfl, -, -⟩ := s0.parts.shape
  have HC0 := chid (fun W (hW : Below w.heap.size w W) => H0 _ tb b W (s0.next hW) (ht.next hW))
  obtain ⟨a1, n1, rfl, -, -⟩ := s1.parts.shape
  have HC1 := chid (fun W (hW : Below w.heap.size w W) => H1 _ tb b W (s1.next hW) (ht.next hW))
  have HA : Hid (∀ o, Below w.heap.size w (w.alloc o)) := fun o => (Below.refl _ _).alloc (Nat.le_refl _) _
  have HF0 := chid f0
  have HF1 := chid f1
  obtain ⟨p0, p1, p2, p3⟩ := f0
  have HX := chid (Box.new w (coL ⟨26, tn, tm, [x0, x1]⟩ (.slice (some ⟨pb, off, none⟩) 2 cap)) 30)
  clear hs ht s0 s1
  have hT : Hid (Rv = resV (if (telV E x0).2 = 0 ∧ (telV E x0).1 ≠ 1 then (telV E x1) else (telV E x0))) := hRv
  clear hRv
  generalize telV E x0 = r0 at *
  generalize telV E x1 = r1 at *
  obtain ⟨n0', e0⟩ := r0
  dsimp only at hT
  by_cases he : e0 = 0
  case neg =>
    have hR : Hid (Rv = Value.tuple #[.int .i64 n0', .iface 238 (.agg #[.int .i64 e0])]) := by show _ = _; rw [hT.out, if_neg (fun h => he h.1)]; exact resV_err _ he
    go_enter Tryz.func167, Tryz.ntmps167
    go_wp2_with fail
    refine Calls.mono (HC0.out _ (HA.out _)) ?_
    rintro e w1 ⟨he1, b1⟩
    rw [resV_err n0' he] at he1
    subst he1
    have HB := chid (cbelow_on (HA.out _) b1 (by simp))
    have X1 := HX.out.next b1
    have c0 := X1.cell 0 _ rfl
    have c1 := X1.cell 1 _ rfl
    have c2 := X1.cell 2 _ rfl
    have c3 := X1.cell 3 _ rfl
    have x1l := X1.lt
    clear b1 HC0 HX X1 p0 p1 p2 p3
    clear hT
    go_wp2_with fail
    go_ret2
    exact ⟨by rw [hR.out]; rfl, HB.out⟩
  subst he
  by_cases hz : n0' = 1
  · subst hz
    have hR : Hid (Rv = Value.tuple #[.int .i64 1, .nilIface]) := by show _ = _; rw [hT.out, if_neg (by simp)]; exact resV_ok _ rfl
    go_enter Tryz.func167, Tryz.ntmps167
    go_wp2_with fail
    refine Calls.mono (HC0.out _ (HA.out _)) ?_
    rintro e w1 ⟨he1, b1⟩
    rw [resV_ok (1, 0) rfl] at he1
    subst he1
    have HB := chid (cbelow_on (HA.out _) b1 (by simp))
    have X1 := HX.out.next b1
    have c0 := X1.cell 0 _ rfl
    have c1 := X1.cell 1 _ rfl
    have c2 := X1.cell 2 _ rfl
    have c3 := X1.cell 3 _ rfl
    have x1l := X1.lt
    clear b1 HC0 HX X1 p0 p1 p2 p3
    clear hT
    go_wp2_with fail
    go_ret2
    exact ⟨by rw [hR.out]; rfl, HB.out⟩
  · have hR : Hid (Rv = resV r1) := by show _ = _; rw [hT.out, if_pos ⟨rfl, hz⟩]
    have kz : (n0' == 1) = false := by simpa using hz
    go_enter Tryz.func167, Tryz.ntmps167
    go_wp2_with fail
    refine Calls.mono (HC0.out _ (HA.out _)) ?_
    rintro e w1 ⟨he1, b1⟩
    rw [resV_ok (n0', 0) rfl] at he1
    subst he1
    have HB := chid (cbelow_on (HA.out _) b1 (by simp))
    have X1 := HX.out.next b1
    have c0 := X1.cell 0 _ rfl
    have c1 := X1.cell 1 _ rfl
    have c2 := X1.cell 2 _ rfl
    have c3 := X1.cell 3 _ rfl
    have x1l := X1.lt
    clear b1 HC0 HX X1 p0 p1 p2 p3
    clear hT
    obtain ⟨p0, p1, p2, p3⟩ := HF1.out.keep (w' := w1) (fun j => HB.out.cell (p := ⟨pb, j, none⟩) lp)
    have lp1 := Nat.lt_of_lt_of_le lp HB.out.size
    go_wp2_with fail
    refine Calls.mono (HC1.out _ HB.out) ?_
    rintro e w2 ⟨rfl, b2⟩
    have HB2 := chid (cbelow_on HB.out b2 HB.out.size)
    clear b2 p0 p1 p2 p3
    go_wp2_with fail
    go_ret2
    exact ⟨by rw [hR.out]; rfl, HB2.out⟩
set_option maxHeartbeats 1000000 in
theorem wk_choice (E : EnvP) (tn tm : Int) (x0 x1 x2 : Co) (H0 : TeC E x0) (H1 : TeC E x1) (H2 : TeC E x2) : WkC E 28 ⟨28, tn, tm, [x0, x1, x2]⟩ := by
  intro v tb b w f q hs ht hw
  cases hw
  obtain ⟨Rv, hRv⟩ : ∃ Rv, Hid (Rv = resV (telV E ⟨28, tn, tm, [x0, x1, x2]⟩)) := ⟨_, rfl⟩
  rw [← hRv.out]
  rw [telV_eq] at hRv
  obtain ⟨pb, off, cap, u0, u1, u2, rfl, k1, k2, lp, f0, s0, f1, s1, f2, s2⟩ := parts3 hs.parts
  obtain ⟨a0, n0, rfl, -, -⟩ := s0.parts.shape
  have HC0 := chid (fun W (hW : Below w.heap.size w W) => H0 _ tb b W (s0.next hW) (ht.next hW))
  obtain ⟨a1, n1, rfl, -, -⟩ := s1.parts.shape
  have HC1 := chid (fun W (hW : Below w.heap.size w W) => H1 _ tb b W (s1.next hW) (ht.next hW))
  obtain ⟨a2, n2, rfl, -, -⟩ := s2.parts.shape
  have HC2 := chid (fun W (hW : Below w.heap.size w W) => H2 _ tb b W (s2.next hW) (ht.next hW))
  have HA : Hid (∀ o, Below w.heap.size w (w.alloc o)) := fun o => (Below.refl _ _).alloc (Nat.le_refl _) _
  have HF0 := chid f0
  have HF1 := chid f1
  have HF2 := chid f2
  obtain ⟨p0, p1, p2, p3⟩ := f0
  have HX := chid (Box.new w (coL ⟨28, tn, tm, [x0, x1, x2]⟩ (.slice (some ⟨pb, off, none⟩) 3 cap)) 30)
  clear hs ht s0 s1 s2
  have hT : Hid (Rv = resV (if (telV E x0).2 = 0 then (if (telV E x0).1 = 1 then (telV E x1) else (telV E x2)) else noR (telV E x0).2)) := hRv
  clear hRv
  generalize telV E x0 = r0 at *
  generalize telV E x1 = r1 at *
  generalize telV E x2 = r2 at *
  obtain ⟨n0', e0⟩ := r0
  dsimp only at hT
  by_cases he : e0 = 0
  case neg =>
    have hR : Hid (Rv = Value.tuple #[.int .i64 0, .iface 238 (.agg #[.int .i64 e0])]) := by show _ = _; rw [hT.out, if_neg he]; exact resV_err _ he
    go_enter Tryz.func171, Tryz.ntmps171
    go_wp2_with fail
    refine Calls.mono (HC0.out _ (HA.out _)) ?_
    rintro e w1 ⟨he1, b1⟩
    rw [resV_err n0' he] at he1
    subst he1
    have HB := chid (cbelow_on (HA.out _) b1 (by simp))
    have X1 := HX.out.next b1
    have c0 := X1.cell 0 _ rfl
    have c1 := X1.cell 1 _ rfl
    have c2 := X1.cell 2 _ rfl
    have c3 := X1.cell 3 _ rfl
    have x1l := X1.lt
    clear b1 HC0 HX X1 p0 p1 p2 p3
    clear hT
    go_wp2_with fail
    go_ret2
    exact ⟨by rw [hR.out]; rfl, HB.out⟩
  subst he
  by_cases hz : n0' = 1
  · have hR : Hid (Rv = resV r1) := by show _ = _; rw [hT.out, if_pos rfl, if_pos hz]
    subst hz
    go_enter Tryz.func171, Tryz.ntmps171
    go_wp2_with fail
    refine Calls.mono (HC0.out _ (HA.out _)) ?_
    rintro e w1 ⟨he1, b1⟩
    rw [resV_ok (1, 0) rfl] at he1
    subst he1
    have HB := chid (cbelow_on (HA.out _) b1 (by simp))
    have X1 := HX.out.next b1
    have c0 := X1.cell 0 _ rfl
    have c1 := X1.cell 1 _ rfl
    have c2 := X1.cell 2 _ rfl
    have c3 := X1.cell 3 _ rfl
    have x1l := X1.lt
    clear b1 HC0 HX X1 p0 p1 p2 p3
    clear hT
    obtain ⟨p0, p1, p2, p3⟩ := HF1.out.keep (w' := w1) (fun j => HB.out.cell (p := ⟨pb, j, none⟩) lp)
    have lp1 := Nat.lt_of_lt_of_le lp HB.out.size
    go_wp2_with fail
    refine Calls.mono (HC1.out _ HB.out) ?_
    rintro e w2 ⟨rfl, b2⟩
    have HB2 := chid (cbelow_on HB.out b2 HB.out.size)
    clear b2 p0 p1 p2 p3
    go_wp2_with fail
    go_ret2
    exact ⟨by rw [hR.out]; rfl, HB2.out⟩
  · have hR : Hid (Rv = resV r2) := by show _ = _; rw [hT.out, if_pos rfl, if_neg hz]
    have kz : (n0' == 1) = false := by simpa using hz
    go_enter Tryz.func171, Tryz.ntmps171
    go_wp2_with fail
    refine Calls.mono (HC0.out _ (HA.out _)) ?_
    rintro e w1 ⟨he1, b1⟩
    rw [resV_ok (n0', 0) rfl] at he1
    subst he1
    have HB := chid (cbelow_on (HA.out _) b1 (by simp))
    have X1 := HX.out.next b1
    have c0 := X1.cell 0 _ rfl
    have c1 := X1.cell 1 _ rfl
    have c2 := X1.cell 2 _ rfl
    have c3 := X1.cell 3 _ rfl
    have x1l := X1.lt
    clear b1 HC0 HX X1 p0 p1 p2 p3
    clear hT
    obtain ⟨p0, p1, p2, p3⟩ := HF2.out.keep (w' := w1) (fun j => HB.out.cell (p := ⟨pb, j, none⟩) lp)
    have lp1 := Nat.lt_of_lt_of_le lp HB.out.size
    go_wp2_with fail
    refine Calls.mono (HC2.out _ HB.out) ?_
    rintro e w2 ⟨rfl, b2⟩
    have HB2 := chid (cbelow_on HB.out b2 HB.out.size)
    clear b2 p0 p1 p2 p3
    go_wp2_with fail
    go_ret2
    exact ⟨by rw [hR.out]; rfl, HB2.out⟩

set_option maxHeartbeats 1000000 in
theorem As_nil (gb : Nat) (w : World) : Calls Tryz.prog 200 #[.nilIface, .iface 240 (.pointer (some ⟨gb, 0, none⟩))] w fun e w' => e = .returned (.bool false) ∧ w' = w := by
  go_enter Tryz.func200, Tryz.ntmps200
  go_wp2_with fail
  go_ret
  exact ⟨rfl, rfl⟩
set_option maxHeartbeats 1000000 in
theorem reasonOf_c (r : Int) (w : World) (hg : GlE w) : Calls Tryz.prog 110 #[errV r] w fun e w' => e = .returned (.int .i64 r) ∧ Below w.heap.size w w' := by
  have A : ∀ o, Below w.heap.size w (w.alloc o) := fun o => (Below.refl _ _).alloc (Nat.le_refl _) _
  by_cases h : r = 0
  · subst h
    rw [errV_0]
    have HC := chid (fun gb W => As_nil gb W)
    have HA := chid A
    clear A hg
    go_enter Tryz.func110, Tryz.ntmps110
    go_wp2_with fail
    refine Calls.mono (HC.out _ _) ?_
    rintro e w1 ⟨rfl, rfl⟩
    go_wp2_with fail
    go_ret
    exact ⟨rfl, HA.out _⟩
  · rw [errV_n h]
    have HC := chid (fun W (hW : Below w.heap.size w W) (hb : Box W w.heap.size [.int .i64 0]) => As_c w.heap.size r _ W (GlE.next hg hW) hb)
    have HA := chid A
    clear A hg
    go_enter Tryz.func110, Tryz.ntmps110
    go_wp2_with fail
    refine Calls.mono (HC.out _ (HA.out _) (Box.new w _ _)) ?_
    rintro e w1 ⟨rfl, W, b1, rfl⟩
    have X := ((Box.new w [.int .i64 0] 238).next b1).set 0 (by simp) (.int .i64 r)
    have c0 := X.cell 0 _ rfl
    have x0 := X.lt
    have HB := chid ((cbelow_on (HA.out (.cells #[.int .i64 0] 238)) b1 (by simp)).setCell (p := ⟨w.heap.size, 0, none⟩) (Nat.le_refl _) (.int .i64 r))
    clear X b1
    generalize W.setCell _ _ = w1 at *
    go_wp2_with fail
    go_ret
    exact ⟨rfl, HB.out⟩

set_option maxHeartbeats 1000000 in
theorem wk_either (E : EnvP) (tn tm : Int) (x0 x1 : Co) (H0 : TeC E x0) (H1 : TeC E x1) : WkC E 27 ⟨27, tn, tm, [x0, x1]⟩ := by
  intro v tb b w f q hs ht hw
  cases hw
  obtain ⟨Rv, hRv⟩ : ∃ Rv, Hid (Rv = resV (telV E ⟨27, tn, tm, [x0, x1]⟩)) := ⟨_, rfl⟩
  rw [← hRv.out]
  rw [telV_eq] at hRv
  obtain ⟨pb, off, cap, u0, u1, rfl, k1, k2, lp, f0, s0, f1, s1⟩ := parts2 hs.parts
  obtain ⟨a0, n0, rfl, -, -⟩ := s0.parts.shape
  have HC0 := chid (fun W (hW : Below w.heap.size w W) => H0 _ tb b W (s0.next hW) (ht.next hW))
  obtain ⟨a1, n1, rfl, -, -⟩ := s1.parts.shape
  have HC1 := chid (fun W (hW : Below w.heap.size w W) => H1 _ tb b W (s1.next hW) (ht.next hW))
  have HA : Hid (∀ o, Below w.heap.size w (w.alloc o)) := fun o => (Below.refl _ _).alloc (Nat.le_refl _) _
  have HF0 := chid f0
  have HF1 := chid f1
  obtain ⟨p0, p1, p2, p3⟩ := f0
  have HX := chid (Box.new w (coL ⟨27, tn, tm, [x0, x1]⟩ (.slice (some ⟨pb, off, none⟩) 2 cap)) 30)
  have HG := chid ht.gl
  clear hs ht s0 s1
  have hT : Hid (Rv = resV (if (telV E x0).2 = 0 then (telV E x0) else (telV E x1))) := hRv
  clear hRv
  generalize telV E x0 = r0 at *
  generalize telV E x1 = r1 at *
  obtain ⟨n0', e0⟩ := r0
  dsimp only at hT
  have HR : Hid (∀ W, Below w.heap.size w W → Calls Tryz.prog 110 #[errV e0] W fun e w' => e = .returned (.int .i64 e0) ∧ Below W.heap.size W w') := fun W hW => reasonOf_c e0 W (GlE.next HG.out hW)
  by_cases he : e0 = 0
  case neg =>
    have hR : Hid (Rv = resV r1) := by show _ = _; rw [hT.out, if_neg he]
    rw [errV_n he] at HR
    have kz : (e0 != 0) = true := by simpa using he
    go_enter Tryz.func169, Tryz.ntmps169
    go_wp2_with fail
    refine Calls.mono (HC0.out _ (HA.out _)) ?_
    rintro e w1 ⟨he1, b1⟩
    rw [resV_err n0' he] at he1
    subst he1
    have HB := chid (cbelow_on (HA.out _) b1 (by simp))
    have X1 := HX.out.next b1
    have c0 := X1.cell 0 _ rfl
    have c1 := X1.cell 1 _ rfl
    have c2 := X1.cell 2 _ rfl
    have c3 := X1.cell 3 _ rfl
    have x1l := X1.lt
    clear b1 HC0 HX X1 p0 p1 p2 p3
    clear hT
    go_wp2_with fail
    refine Calls.mono (HR.out _ HB.out) ?_
    rintro e w3 ⟨rfl, b3⟩
    have HB3 := chid (cbelow_on HB.out b3 HB.out.size)
    replace c3 := (b3.cell (p := ⟨w.heap.size, 3, none⟩) x1l).trans c3
    have x3l := Nat.lt_of_lt_of_le x1l b3.size
    clear b3 c0 c1 c2 HR
    obtain ⟨p0, p1, p2, p3⟩ := HF1.out.keep (w' := w3) (fun j => HB3.out.cell (p := ⟨pb, j, none⟩) lp)
    have lp1 := Nat.lt_of_lt_of_le lp HB3.out.size
    go_wp2_with fail
    refine Calls.mono (HC1.out _ HB3.out) ?_
    rintro e w2 ⟨rfl, b2⟩
    have HB2 := chid (cbelow_on HB3.out b2 HB3.out.size)
    clear b2 p0 p1 p2 p3
    go_wp2_with fail
    go_ret2
    exact ⟨by rw [hR.out]; rfl, HB2.out⟩
  subst he
  have hR : Hid (Rv = Value.tuple #[.int .i64 n0', .nilIface]) := by show _ = _; rw [hT.out, if_pos rfl]; exact resV_ok _ rfl
  rw [errV_0] at HR
  go_enter Tryz.func169, Tryz.ntmps169
  go_wp2_with fail
  refine Calls.mono (HC0.out _ (HA.out _)) ?_
  rintro e w1 ⟨he1, b1⟩
  rw [resV_ok (n0', 0) rfl] at he1
  subst he1
  have HB := chid (cbelow_on (HA.out _) b1 (by simp))
  have X1 := HX.out.next b1
  have c0 := X1.cell 0 _ rfl
  have c1 := X1.cell 1 _ rfl
  have c2 := X1.cell 2 _ rfl
  have c3 := X1.cell 3 _ rfl
  have x1l := X1.lt
  clear b1 HC0 HX X1 p0 p1 p2 p3
  clear hT
  go_wp2_with fail
  refine Calls.mono (HR.out _ HB.out) ?_
  rintro e w3 ⟨rfl, b3⟩
  have HB3 := chid (cbelow_on HB.out b3 HB.out.size)
  clear b3 c0 c1 c2 c3 HR
  go_wp2_with fail
  go_ret2
  exact ⟨by rw [hR.out]; rfl, HB3.out⟩
set_option maxHeartbeats 1000000 in
theorem wk_scale (E : EnvP) (tn tm : Int) (x0 : Co) (H0 : TeC E x0) (HS : ∀ W : World, Calls Tryz.prog 221 #[.int .i64 (telV E x0).1, .int .i64 tn, .int .i64 tm] W fun e w' => e = .returned (.int .i64 (held ((telV E x0).1 * tn / tm))) ∧ Below W.heap.size W w') : WkC E 13 ⟨13, tn, tm, [x0]⟩ := by
  intro v tb b w f q hs ht hw
  cases hw
  obtain ⟨Rv, hRv⟩ : ∃ Rv, Hid (Rv = resV (telV E ⟨13, tn, tm, [x0]⟩)) := ⟨_, rfl⟩
  rw [← hRv.out]
  rw [telV_eq] at hRv
  obtain ⟨pb, off, cap, u0, rfl, k1, k2, lp, f0, s0⟩ := parts1 hs.parts
  obtain ⟨a0, n0, rfl, -, -⟩ := s0.parts.shape
  have HC0 := chid (fun W (hW : Below w.heap.size w W) => H0 _ tb b W (s0.next hW) (ht.next hW))
  have HA : Hid (∀ o, Below w.heap.size w (w.alloc o)) := fun o => (Below.refl _ _).alloc (Nat.le_refl _) _
  have HF0 := chid f0
  obtain ⟨p0, p1, p2, p3⟩ := f0
  have HX := chid (Box.new w (coL ⟨13, tn, tm, [x0]⟩ (.slice (some ⟨pb, off, none⟩) 1 cap)) 30)
  clear hs ht s0
  have hT : Hid (Rv = resV (ofOneR (fun a => held (a * tn / tm)) (telV E x0))) := hRv
  clear hRv
  generalize telV E x0 = r0 at *
  obtain ⟨n0', e0⟩ := r0
  dsimp only at hT HS
  have HSs := chid HS
  clear HS
  by_cases he : e0 = 0
  case neg =>
    have hR : Hid (Rv = Value.tuple #[.int .i64 0, .iface 238 (.agg #[.int .i64 e0])]) := by show _ = _; rw [hT.out]; unfold ofOneR; rw [if_neg he]; exact resV_err _ he
    go_enter Tryz.func153, Tryz.ntmps153
    go_wp2_with fail
    refine Calls.mono (HC0.out _ (HA.out _)) ?_
    rintro e w1 ⟨he1, b1⟩
    rw [resV_err n0' he] at he1
    subst he1
    have HB := chid (cbelow_on (HA.out _) b1 (by simp))
    have X1 := HX.out.next b1
    have c0 := X1.cell 0 _ rfl
    have c1 := X1.cell 1 _ rfl
    have c2 := X1.cell 2 _ rfl
    have c3 := X1.cell 3 _ rfl
    have x1l := X1.lt
    clear b1 HC0 HX X1 p0 p1 p2 p3
    clear hT
    go_wp2_with fail
    go_ret2
    exact ⟨by rw [hR.out]; rfl, HB.out⟩
  subst he
  have hR : Hid (Rv = Value.tuple #[.int .i64 (held (n0' * tn / tm)), .nilIface]) := by show _ = _; rw [hT.out]; unfold ofOneR; rw [if_pos rfl]; exact resV_ok _ rfl
  go_enter Tryz.func153, Tryz.ntmps153
  go_wp2_with fail
  refine Calls.mono (HC0.out _ (HA.out _)) ?_
  rintro e w1 ⟨he1, b1⟩
  rw [resV_ok (n0', 0) rfl] at he1
  subst he1
  have HB := chid (cbelow_on (HA.out _) b1 (by simp))
  have X1 := HX.out.next b1
  have c0 := X1.cell 0 _ rfl
  have c1 := X1.cell 1 _ rfl
  have c2 := X1.cell 2 _ rfl
  have c3 := X1.cell 3 _ rfl
  have x1l := X1.lt
  clear b1 HC0 HX X1 p0 p1 p2 p3
  clear hT
  go_wp2_with fail
  refine Calls.mono (HSs.out _) ?_
  rintro e w3 ⟨rfl, b3⟩
  have HB3 := chid (cbelow_on HB.out b3 HB.out.size)
  clear b3 c0 c1 c2 c3 HSs
  go_wp2_with fail
  go_ret2
  exact ⟨by rw [hR.out]; rfl, HB3.out⟩
set_option maxHeartbeats 1000000 in
theorem wk_to (E : EnvP) (tn tm : Int) (x0 : Co) (H0 : TeC E x0) (HS : ∀ W : World, Calls Tryz.prog 231 #[.int .i64 (telV E x0).1] W fun e w' => e = .returned (.int .i64 (countF (telV E x0).1)) ∧ Below W.heap.size W w') : WkC E 30 ⟨30, tn, tm, [x0]⟩ := by
  intro v tb b w f q hs ht hw
  cases hw
  obtain ⟨Rv, hRv⟩ : ∃ Rv, Hid (Rv = resV (telV E ⟨30, tn, tm, [x0]⟩)) := ⟨_, rfl⟩
  rw [← hRv.out]
  rw [telV_eq] at hRv
  obtain ⟨pb, off, cap, u0, rfl, k1, k2, lp, f0, s0⟩ := parts1 hs.parts
  obtain ⟨a0, n0, rfl, -, -⟩ := s0.parts.shape
  have HC0 := chid (fun W (hW : Below w.heap.size w W) => H0 _ tb b W (s0.next hW) (ht.next hW))
  have HA : Hid (∀ o, Below w.heap.size w (w.alloc o)) := fun o => (Below.refl _ _).alloc (Nat.le_refl _) _
  have HF0 := chid f0
  obtain ⟨p0, p1, p2, p3⟩ := f0
  have HX := chid (Box.new w (coL ⟨30, tn, tm, [x0]⟩ (.slice (some ⟨pb, off, none⟩) 1 cap)) 30)
  clear hs ht s0
  have hT : Hid (Rv = resV (ofOneR countF (telV E x0))) := hRv
  clear hRv
  generalize telV E x0 = r0 at *
  obtain ⟨n0', e0⟩ := r0
  dsimp only at hT HS
  have HSs := chid HS
  clear HS
  by_cases he : e0 = 0
  case neg =>
    have hR : Hid (Rv = Value.tuple #[.int .i64 0, .iface 238 (.agg #[.int .i64 e0])]) := by show _ = _; rw [hT.out]; unfold ofOneR; rw [if_neg he]; exact resV_err _ he
    go_enter Tryz.func173, Tryz.ntmps173
    go_wp2_with fail
    refine Calls.mono (HC0.out _ (HA.out _)) ?_
    rintro e w1 ⟨he1, b1⟩
    rw [resV_err n0' he] at he1
    subst he1
    have HB := chid (cbelow_on (HA.out _) b1 (by simp))
    have X1 := HX.out.next b1
    have c0 := X1.cell 0 _ rfl
    have c1 := X1.cell 1 _ rfl
    have c2 := X1.cell 2 _ rfl
    have c3 := X1.cell 3 _ rfl
    have x1l := X1.lt
    clear b1 HC0 HX X1 p0 p1 p2 p3
    clear hT
    go_wp2_with fail
    go_ret2
    exact ⟨by rw [hR.out]; rfl, HB.out⟩
  subst he
  have hR : Hid (Rv = Value.tuple #[.int .i64 (countF n0'), .nilIface]) := by show _ = _; rw [hT.out]; unfold ofOneR; rw [if_pos rfl]; exact resV_ok _ rfl
  go_enter Tryz.func173, Tryz.ntmps173
  go_wp2_with fail
  refine Calls.mono (HC0.out _ (HA.out _)) ?_
  rintro e w1 ⟨he1, b1⟩
  rw [resV_ok (n0', 0) rfl] at he1
  subst he1
  have HB := chid (cbelow_on (HA.out _) b1 (by simp))
  have X1 := HX.out.next b1
  have c0 := X1.cell 0 _ rfl
  have c1 := X1.cell 1 _ rfl
  have c2 := X1.cell 2 _ rfl
  have c3 := X1.cell 3 _ rfl
  have x1l := X1.lt
  clear b1 HC0 HX X1 p0 p1 p2 p3
  clear hT
  go_wp2_with fail
  refine Calls.mono (HSs.out _) ?_
  rintro e w3 ⟨rfl, b3⟩
  have HB3 := chid (cbelow_on HB.out b3 HB.out.size)
  clear b3 c0 c1 c2 c3 HSs
  go_wp2_with fail
  go_ret2
  exact ⟨by rw [hR.out]; rfl, HB3.out⟩

set_option maxHeartbeats 1000000 in
theorem to_c (E : EnvP) (k tn tm : Int) (x0 : Co) (H0 : TeC E x0) (HS : ∀ W : World, Calls Tryz.prog 231 #[.int .i64 (telV E x0).1] W fun e w' => e = .returned (.int .i64 (countF (telV E x0).1)) ∧ Below W.heap.size W w') (v : Value) (tb b : Nat) (w : World) (hs : CSits w ⟨k, tn, tm, [x0]⟩ v) (ht : TlAt w tb b E) :
    Calls Tryz.prog 173 #[.pointer (some ⟨tb, 0, none⟩), coV ⟨k, tn, tm, [x0]⟩ v] w fun e w' => e = .returned (resV (ofOneR countF (telV E x0))) ∧ Below w.heap.size w w' := by
  obtain ⟨Rv, hRv⟩ : ∃ Rv, Hid (Rv = resV (ofOneR countF (telV E x0))) := ⟨_, rfl⟩
  rw [← hRv.out]
  obtain ⟨pb, off, cap, u0, rfl, k1, k2, lp, f0, s0⟩ := parts1 hs.parts
  obtain ⟨a0, n0, rfl, -, -⟩ := s0.parts.shape
  have HC0 := chid (fun W (hW : Below w.heap.size w W) => H0 _ tb b W (s0.next hW) (ht.next hW))
  have HA : Hid (∀ o, Below w.heap.size w (w.alloc o)) := fun o => (Below.refl _ _).alloc (Nat.le_refl _) _
  have HF0 := chid f0
  obtain ⟨p0, p1, p2, p3⟩ := f0
  have HX := chid (Box.new w (coL ⟨k, tn, tm, [x0]⟩ (.slice (some ⟨pb, off, none⟩) 1 cap)) 30)
  clear hs ht s0
  have hT := hRv
  clear hRv
  generalize telV E x0 = r0 at *
  obtain ⟨n0', e0⟩ := r0
  dsimp only at hT HS
  have HSs := chid HS
  clear HS
  by_cases he : e0 = 0
  case neg =>
    have hR : Hid (Rv = Value.tuple #[.int .i64 0, .iface 238 (.agg #[.int .i64 e0])]) := by show _ = _; rw [hT.out]; unfold ofOneR; rw [if_neg he]; exact resV_err _ he
    go_enter Tryz.func173, Tryz.ntmps173
    go_wp2_with fail
    refine Calls.mono (HC0.out _ (HA.out _)) ?_
    rintro e w1 ⟨he1, b1⟩
    rw [resV_err n0' he] at he1
    subst he1
    have HB := chid (cbelow_on (HA.out _) b1 (by simp))
    have X1 := HX.out.next b1
    have c0 := X1.cell 0 _ rfl
    have c1 := X1.cell 1 _ rfl
    have c2 := X1.cell 2 _ rfl
    have c3 := X1.cell 3 _ rfl
    have x1l := X1.lt
    clear b1 HC0 HX X1 p0 p1 p2 p3
    clear hT
    go_wp2_with fail
    go_ret2
    exact ⟨by rw [hR.out]; rfl, HB.out⟩
  subst he
  have hR : Hid (Rv = Value.tuple #[.int .i64 (countF n0'), .nilIface]) := by show _ = _; rw [hT.out]; unfold ofOneR; rw [if_pos rfl]; exact resV_ok _ rfl
  go_enter Tryz.func173, Tryz.ntmps173
  go_wp2_with fail
  refine Calls.mono (HC0.out _ (HA.out _)) ?_
  rintro e w1 ⟨he1, b1⟩
  rw [resV_ok (n0', 0) rfl] at he1
  subst he1
  have HB := chid (cbelow_on (HA.out _) b1 (by simp))
  have X1 := HX.out.next b1
  have c0 := X1.cell 0 _ rfl
  have c1 := X1.cell 1 _ rfl
  have c2 := X1.cell 2 _ rfl
  have c3 := X1.cell 3 _ rfl
  have x1l := X1.lt
  clear b1 HC0 HX X1 p0 p1 p2 p3
  clear hT
  go_wp2_with fail
  refine Calls.mono (HSs.out _) ?_
  rintro e w3 ⟨rfl, b3⟩
  have HB3 := chid (cbelow_on HB.out b3 HB.out.size)
  clear b3 c0 c1 c2 c3 HSs
  go_wp2_with fail
  go_ret2
  exact ⟨by rw [hR.out]; rfl, HB3.out⟩
set_option maxHeartbeats 1000000 in
theorem wk_by (E : EnvP) (tn tm : Int) (x0 : Co) (H0 : TeC E x0) (HS : ∀ W : World, Calls Tryz.prog 231 #[.int .i64 (telV E x0).1] W fun e w' => e = .returned (.int .i64 (countF (telV E x0).1)) ∧ Below W.heap.size W w') (HD : ∀ W : World, Calls Tryz.prog 155 #[.int .i64 E.rep, .int .i64 (countF (telV E x0).1)] W fun e w' => e = .returned (.int .i64 (held (E.rep + countF (telV E x0).1))) ∧ Below W.heap.size W w') : WkC E 31 ⟨31, tn, tm, [x0]⟩ := by
  intro v tb b w f q hs ht hw
  cases hw
  have hT : Hid (telV E ⟨31, tn, tm, [x0]⟩ = ofOneR (fun a => held (E.rep + countF a)) (telV E x0)) := by show _ = _; rw [telV_eq]; rfl
  obtain ⟨Rv, hRv⟩ : ∃ Rv, Hid (Rv = resV (telV E ⟨31, tn, tm, [x0]⟩)) := ⟨_, rfl⟩
  rw [← hRv.out]
  have HC := chid (fun W (hW : Below w.heap.size w W) => to_c E 31 tn tm x0 H0 HS v tb b W (hs.next hW) (ht.next hW))
  obtain ⟨pb, off, cap, u0, rfl, -, -, -, -, -⟩ := parts1 hs.parts
  obtain ⟨-, s1, sl⟩ := ht.cell0
  have HA : Hid (∀ o, Below w.heap.size w (w.alloc o)) := fun o => (Below.refl _ _).alloc (Nat.le_refl _) _
  have HDd := chid HD
  clear hs ht HS H0 HD
  generalize telV E x0 = r0 at *
  generalize telV E _ = RR at *
  obtain ⟨n0', e0⟩ := r0
  dsimp only at HDd
  by_cases he : e0 = 0
  case neg =>
    have hR : Hid (Rv = Value.tuple #[.int .i64 0, .iface 238 (.agg #[.int .i64 e0])]) := by show _ = _; rw [hRv.out, hT.out]; unfold ofOneR; rw [if_neg he]; exact resV_err _ he
    have e1 : resV (ofOneR countF (n0', e0)) = Value.tuple #[.int .i64 0, .iface 238 (.agg #[.int .i64 e0])] := by unfold ofOneR; rw [if_neg he]; exact resV_err _ he
    simp only [e1] at HC
    clear hRv hT e1
    go_enter Tryz.func174, Tryz.ntmps174
    go_wp2_with fail
    refine Calls.mono (HC.out _ (HA.out _)) ?_
    rintro e w1 ⟨rfl, b1⟩
    have HB := chid (cbelow_on (HA.out _) b1 (by simp))
    clear b1 HC
    go_wp2_with fail
    go_ret2
    exact ⟨by rw [hR.out]; rfl, HB.out⟩
  subst he
  have hR : Hid (Rv = Value.tuple #[.int .i64 (held (E.rep + countF n0')), .nilIface]) := by show _ = _; rw [hRv.out, hT.out]; unfold ofOneR; rw [if_pos rfl]; exact resV_ok _ rfl
  have e1 : resV (ofOneR countF (n0', 0)) = Value.tuple #[.int .i64 (countF n0'), .nilIface] := by unfold ofOneR; rw [if_pos rfl]; exact resV_ok _ rfl
  simp only [e1] at HC
  clear hRv hT e1
  go_enter Tryz.func174, Tryz.ntmps174
  go_wp2_with fail
  refine Calls.mono (HC.out _ (HA.out _)) ?_
  rintro e w1 ⟨rfl, b1⟩
  have HB := chid (cbelow_on (HA.out _) b1 (by simp))
  have s2 := (HB.out.cell (p := ⟨tb, 1, none⟩) sl).trans s1
  have sl2 := Nat.lt_of_lt_of_le sl HB.out.size
  clear b1 HC s1
  go_wp2_with fail
  refine Calls.mono (HDd.out _) ?_
  rintro e w3 ⟨rfl, b3⟩
  have HB3 := chid (cbelow_on HB.out b3 HB.out.size)
  clear b3 HDd
  go_wp2_with fail
  go_ret2
  exact ⟨by rw [hR.out]; rfl, HB3.out⟩
set_option maxHeartbeats 1000000 in
theorem one_c (E : EnvP) (k tn tm : Int) (x0 : Co) (g p : Nat) (F : Int → Int) (hE : Ent g) (H0 : TeC E x0) (HS : ∀ W : World, Calls Tryz.prog g #[.int .i64 (telV E x0).1] W fun e w' => e = .returned (.int .i64 (F (telV E x0).1)) ∧ Below W.heap.size W w') (v : Value) (tb b : Nat) (w : World) (hs : CSits w ⟨k, tn, tm, [x0]⟩ v) (ht : TlAt w tb b E) (hp : FnF w p (.func (.func g) #[] #[])) :
    Calls Tryz.prog 219 #[.pointer (some ⟨tb, 0, none⟩), coV ⟨k, tn, tm, [x0]⟩ v, .pointer (some ⟨p, 0, none⟩)] w fun e w' => e = .returned (resV (ofOneR F (telV E x0))) ∧ Below w.heap.size w w' := by
  obtain ⟨Rv, hRv⟩ : ∃ Rv, Hid (Rv = resV (ofOneR F (telV E x0))) := ⟨_, rfl⟩
  rw [← hRv.out]
  obtain ⟨pb, off, cap, u0, rfl, k1, k2, lp, f0, s0⟩ := parts1 hs.parts
  obtain ⟨a0, n0, rfl, -, -⟩ := s0.parts.shape
  have HC0 := chid (fun W (hW : Below w.heap.size w W) => H0 _ tb b W (s0.next hW) (ht.next hW))
  have HA : Hid (∀ o, Below w.heap.size w (w.alloc o)) := fun o => (Below.refl _ _).alloc (Nat.le_refl _) _
  have HF0 := chid f0
  obtain ⟨p0, p1, p2, p3⟩ := f0
  have HX := chid (Box.new w (coL ⟨k, tn, tm, [x0]⟩ (.slice (some ⟨pb, off, none⟩) 1 cap)) 30)
  clear hs ht s0
  have hT := hRv
  clear hRv
  generalize telV E x0 = r0 at *
  obtain ⟨n0', e0⟩ := r0
  dsimp only at hT HS
  have HSs := chid HS
  have HP := chid hp
  unfold Ent at hE
  clear HS hp
  by_cases he : e0 = 0
  case neg =>
    have hR : Hid (Rv = Value.tuple #[.int .i64 0, .iface 238 (.agg #[.int .i64 e0])]) := by show _ = _; rw [hT.out]; unfold ofOneR; rw [if_neg he]; exact resV_err _ he
    go_enter Tryz.func219, Tryz.ntmps219
    go_wp2_with fail
    refine Calls.mono (HC0.out _ (HA.out _)) ?_
    rintro e w1 ⟨he1, b1⟩
    rw [resV_err n0' he] at he1
    subst he1
    have HB := chid (cbelow_on (HA.out _) b1 (by simp))
    have X1 := HX.out.next b1
    have c0 := X1.cell 0 _ rfl
    have c1 := X1.cell 1 _ rfl
    have c2 := X1.cell 2 _ rfl
    have c3 := X1.cell 3 _ rfl
    have x1l := X1.lt
    clear b1 HC0 HX X1 p0 p1 p2 p3
    clear hT
    go_wp2_with fail
    go_ret2
    exact ⟨by rw [hR.out]; rfl, HB.out⟩
  subst he
  have hR : Hid (Rv = Value.tuple #[.int .i64 (F n0'), .nilIface]) := by show _ = _; rw [hT.out]; unfold ofOneR; rw [if_pos rfl]; exact resV_ok _ rfl
  go_enter Tryz.func219, Tryz.ntmps219
  go_wp2_with fail
  refine Calls.mono (HC0.out _ (HA.out _)) ?_
  rintro e w1 ⟨he1, b1⟩
  rw [resV_ok (n0', 0) rfl] at he1
  subst he1
  have HB := chid (cbelow_on (HA.out _) b1 (by simp))
  have X1 := HX.out.next b1
  have c0 := X1.cell 0 _ rfl
  have c1 := X1.cell 1 _ rfl
  have c2 := X1.cell 2 _ rfl
  have c3 := X1.cell 3 _ rfl
  have x1l := X1.lt
  clear b1 HC0 HX X1 p0 p1 p2 p3
  clear hT
  obtain ⟨lp2, fp2⟩ := HP.out.next HB.out
  go_wp2_with fail
  refine Calls.mono (HSs.out _) ?_
  rintro e w3 ⟨rfl, b3⟩
  have HB3 := chid (cbelow_on HB.out b3 HB.out.size)
  clear b3 c0 c1 c2 c3 HSs
  go_wp2_with fail
  go_ret2
  exact ⟨by rw [hR.out]; rfl, HB3.out⟩
/-- What two parts come to. -/
def pairV (a b : Rs) : Value := if a.2 = 0 then .tuple #[.int .i64 a.1, .int .i64 b.1, errV b.2] else .tuple #[.int .i64 0, .int .i64 0, errV a.2]
set_option maxHeartbeats 1000000 in
theorem pair_c (E : EnvP) (k tn tm : Int) (x0 x1 : Co) (H0 : TeC E x0) (H1 : TeC E x1) (v : Value) (tb b : Nat) (w : World) (hs : CSits w ⟨k, tn, tm, [x0, x1]⟩ v) (ht : TlAt w tb b E) :
    Calls Tryz.prog 223 #[.pointer (some ⟨tb, 0, none⟩), coV ⟨k, tn, tm, [x0, x1]⟩ v] w fun e w' => e = .returned (pairV (telV E x0) (telV E x1)) ∧ Below w.heap.size w w' := by
  obtain ⟨Rv, hRv⟩ : ∃ Rv, Hid (Rv = pairV (telV E x0) (telV E x1)) := ⟨_, rfl⟩
  rw [← hRv.out]
  obtain ⟨pb, off, cap, u0, u1, rfl, k1, k2, lp, f0, s0, f1, s1⟩ := parts2 hs.parts
  obtain ⟨a0, n0, rfl, -, -⟩ := s0.parts.shape
  have HC0 := chid (fun W (hW : Below w.heap.size w W) => H0 _ tb b W (s0.next hW) (ht.next hW))
  obtain ⟨a1, n1, rfl, -, -⟩ := s1.parts.shape
  have HC1 := chid (fun W (hW : Below w.heap.size w W) => H1 _ tb b W (s1.next hW) (ht.next hW))
  have HA : Hid (∀ o, Below w.heap.size w (w.alloc o)) := fun o => (Below.refl _ _).alloc (Nat.le_refl _) _
  have HF0 := chid f0
  have HF1 := chid f1
  obtain ⟨p0, p1, p2, p3⟩ := f0
  have HX := chid (Box.new w (coL ⟨k, tn, tm, [x0, x1]⟩ (.slice (some ⟨pb, off, none⟩) 2 cap)) 30)
  clear hs ht s0 s1
  have hT := hRv
  clear hRv
  generalize telV E x0 = r0 at *
  generalize telV E x1 = r1 at *
  obtain ⟨n0', e0⟩ := r0
  by_cases he : e0 = 0
  case neg =>
    have hR : Hid (Rv = Value.tuple #[.int .i64 0, .int .i64 0, .iface 238 (.agg #[.int .i64 e0])]) := by show _ = _; rw [hT.out]; unfold pairV; rw [if_neg he, errV_n he]
    go_enter Tryz.func223, Tryz.ntmps223
    go_wp2_with fail
    refine Calls.mono (HC0.out _ (HA.out _)) ?_
    rintro e w1 ⟨he1, b1⟩
    rw [resV_err n0' he] at he1
    subst he1
    have HB := chid (cbelow_on (HA.out _) b1 (by simp))
    have X1 := HX.out.next b1
    have c0 := X1.cell 0 _ rfl
    have c1 := X1.cell 1 _ rfl
    have c2 := X1.cell 2 _ rfl
    have c3 := X1.cell 3 _ rfl
    have x1l := X1.lt
    clear b1 HC0 HX X1 p0 p1 p2 p3
    clear hT
    go_wp2_with fail
    go_ret3
    exact ⟨by rw [hR.out]; rfl, HB.out⟩
  subst he
  have hR : Hid (Rv = Value.tuple #[.int .i64 n0', .int .i64 r1.1, errV r1.2]) := by show _ = _; rw [hT.out]; unfold pairV; exact if_pos rfl
  go_enter Tryz.func223, Tryz.ntmps223
  go_wp2_with fail
  refine Calls.mono (HC0.out _ (HA.out _)) ?_
  rintro e w1 ⟨he1, b1⟩
  rw [resV_ok (n0', 0) rfl] at he1
  subst he1
  have HB := chid (cbelow_on (HA.out _) b1 (by simp))
  have X1 := HX.out.next b1
  have c0 := X1.cell 0 _ rfl
  have c1 := X1.cell 1 _ rfl
  have c2 := X1.cell 2 _ rfl
  have c3 := X1.cell 3 _ rfl
  have x1l := X1.lt
  clear b1 HC0 HX X1 p0 p1 p2 p3
  clear hT
  obtain ⟨p0, p1, p2, p3⟩ := HF1.out.keep (w' := w1) (fun j => HB.out.cell (p := ⟨pb, j, none⟩) lp)
  have lp1 := Nat.lt_of_lt_of_le lp HB.out.size
  go_wp2_with fail
  refine Calls.mono (HC1.out _ HB.out) ?_
  rintro e w2 ⟨rfl, b2⟩
  have HB2 := chid (cbelow_on HB.out b2 HB.out.size)
  clear b2 p0 p1 p2 p3
  go_wp2_with fail
  go_ret3
  exact ⟨by rw [hR.out]; rfl, HB2.out⟩
end Go.Proofs.YtbddbnjhmdbkbaaGreatDoor

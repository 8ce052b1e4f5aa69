import Derived.Test.YtbddbnjhmdbkbaaGreatDoorMgM
import Derived.Test.YtbddbnjhmdbkbaaGreatDoorMhN
import Derived.Test.YtbddbnjhmdbkbaaGreatDoorMgP
namespace Go.Proofs.YtbddbnjhmdbkbaaGreatDoor
open Go.RowKit
theorem a5p:∀ (n:Nat) (l:List Int),l.Nodup->(∀ x,x∈l->0<=x/\x<(n:Int))->l.length<=n
 | 0,[],_,_=>ZB _
 | 0,x::_,_,h=>by have:=h x (by simp);omega
 | n+1,l,hd,h=>by
   by_cases hm:(n:Int)∈l
   ·have h1:=a5p n (l.erase (n:Int)) (hd.erase _) (fun x hx=>by
     have hx2:=(hd.mem_erase_iff).1 hx
     have:=h x hx2.2
     have hne:=hx2.1
     omega)
    have h2:=List.length_erase_of_mem hm
    omega
   ·have h1:=a5p n l hd (fun x hx=>by
     have:=h x hx
     have hne:x≠(n:Int):=fun e=>hm (e ▸ hx)
     omega)
    omega
def c0P (s:List (Int×Co)):Prop:=(s.map (·.1)).Nodup/\∀ x,x∈s->0<=x.1/\x.1<256
theorem c0P.len {s:List (Int×Co)}(h:c0P s):s.length<=256:=by
 have:=a5p 256 (s.map (·.1)) h.1 (fun x hx=>by
  obtain⟨y,hy,rfl⟩:=List.mem_map.1 hx
  exact h.2 y hy)
 simpa using this
theorem a5t {s:List (Int×Co)}{n:Int}(h:s.lookup n=none):n∉s.map (·.1):=by
 induction s with
 | nil=>simp
 | cons x r ih=>
   obtain⟨k,c⟩:=x
   simp only[List.lookup] at h
   cases hb:n==k with
   | true=>rw[hb] at h;cases h
   | false=>
     rw[hb] at h
     have hne:n≠k:=by simpa using hb
     simp only[List.map_cons,List.mem_cons,not_or]
     exact⟨hne,ih h⟩
theorem b3F (q:Co->Co->Bool)(s:List (Int×Co))(t:Co)(h:c0P s)(_:(a0M q s t).2=true):c0P (a0M q s t).1:=by
 unfold a0M
 by_cases h7:t.op=7
 ·rw[if_pos h7]
  by_cases hr:0<=t.n/\t.n<256
  ·rw[if_pos hr]
   cases hl:s.lookup t.n with
   | none=>
     refine⟨?_,fun x hx=>?_⟩
     ·show ((t.n,_)::s |>.map (·.1)).Nodup
      rw[List.map_cons]
      exact List.nodup_cons.2 ⟨a5t hl,h.1⟩
     ·rcases List.mem_cons.1 hx with rfl | hx
      ·exact hr
      ·exact h.2 x hx
   | some c=>exact h
  ·rw[if_neg hr];exact h
 ·rw[if_neg h7];exact h
def b7E (t:Co):Prop:=t.op=7->(0<=t.n/\t.n<256)/\∃ x,t.parts=[x]/\x.op≠0
def c0O (W:World)(g mb:Nat)(s:List (Int×Co))(F:List Nat)(w:World):Prop:=
 F=[mb]/\Box w g [.map (some mb)]/\W.heap.size<=mb/\g≠mb/\∃ l:List (Int×Co×Value),s=l.map (fun x=>(x.1,x.2.1))/\a7W 2 w mb (l.map (fun x=>(x.1,coV x.2.1 x.2.2)))/\∀ x,x∈l->a0p W x.2.1 x.2.2
theorem a6r {α β γ : Type}[BEq γ](f : α -> β)(l:List (γ × α))(n : γ):(l.map (fun x=>(x.1,f x.2))).lookup n=(l.lookup n).map f:=by
 induction l with
 | nil=>rfl
 | cons x r ih=>
   obtain⟨k,c⟩:=x
   simp only[List.map_cons,List.lookup]
   cases n==k<;>simp[ih]
theorem b1U {α γ : Type}[BEq γ][LawfulBEq γ]{l:List (γ × α)}{n : γ}{a : α}(h:l.lookup n=some a):(n,a)∈l:=by
 induction l with
 | nil=>cases h
 | cons x r ih=>
   obtain⟨k,c⟩:=x
   simp only[List.lookup] at h
   cases hb:n==k with
   | true=>rw[hb] at h;cases h;rw[eq_of_beq hb];simp
   | false=>rw[hb] at h;exact List.mem_cons_of_mem _ (ih h)
theorem b9s (w:World):(zeroValue 30).run Tryz.prog w=.ok (coV ⟨0,0,0,[]⟩ (.slice none 0 0)) w:=by kernel_rfl
set_option maxHeartbeats 1000000 in
theorem b6t (q:Co->Co->Bool)(hq:∀ a b,q a b=true↔a=b)(W:World)(g mb:Nat)(s:List (Int×Co))(F:List Nat)(t:Co)(v:Value)(w:World)(hD:b7E t)(hG:c0P s)(hR:c0O W g mb s F w)(hb:Below W.heap.size W w)(hs:a0p W t v):Calls Tryz.prog 83 (#[coV t v]++#[.pointer (some ⟨g,0,none⟩)]) w (a0U (c0O W g mb) (a0M q s t) F w):=by
 obtain⟨rfl,hbx,hW,hgm,l,hl,hm,hls⟩:=hR
 have A:∀ o,Below w.heap.size w (w.alloc o):=fun o=>(ZD _ _).alloc (ZB _) _
 obtain⟨op,tn,tm,ps⟩:=t
 have hfit:=hs.fit
 have HPa:=a0a (show CAt W v ps from hs.parts)
 obtain⟨ad,cap,rfl,hc1,hc2⟩:=HPa.out.shape
 have c0:=hbx.cell 0 _ rfl
 have l0:=hbx.lt
 have HBx:=a0a hbx
 have HM:=a0a hm
 have HLS:=a0a hls
 show Calls Tryz.prog 83 #[.agg #[.int .i64 op,.int .i64 tn,.int .i64 tm,.slice ad ps.length cap],.pointer (some ⟨g,0,none⟩)] w _
 by_cases h7:op=7
 case neg=>
  have e1:a0M q s ⟨op,tn,tm,ps⟩=(s,true):=if_neg h7
  rw[e1]
  have hP:Hid (∀ o,a0U (c0O W g mb) (s,true) [mb] w (.returned (.bool true)) (w.alloc o)):=fun o=>⟨rfl,[mb],⟨rfl,HBx.out.next (A o),hW,hgm,l,hl,HM.out.next (A o),HLS.out⟩,a0h.of_below (A o),fun b hm=>.inl hm⟩
  have h7':(op != 7)=true:=by simpa using h7
  clear hbx hm hls hs hD hG hb A e1 hfit
  generalize ps.length=L at *
  go_enter Tryz.func83,Tryz.ntmps83
  go_wp2_with fail
  go_ret
  exact hP.out _
 obtain⟨hr,x,hps,hx0⟩:=hD h7
 dsimp only at h7 hr hps
 subst h7 hps
 obtain⟨b,off,cap',hv,-,-,hbl,hx⟩:=HPa.out.open (by simp)
 simp only[Value.slice.injEq] at hv
 obtain⟨rfl,-,rfl⟩:=hv
 obtain⟨u,h4,hu⟩:=hx 0 (by simp)
 have e2:a0M q s ⟨7,tn,tm,[x]⟩=(match s.lookup tn with | none=>((tn,x)::s,true) | some c=>(s,q c x)):=by
  unfold a0M;rw[if_pos rfl,if_pos hr];rfl
 have h4':=h4.keep (w':=w) (fun j=>hb.cell (p:=⟨b,j,none⟩) hbl)
 have hbl':b<w.heap.size:=ZA hbl hb.size
 obtain⟨d0,d1,d2,d3⟩:=h4'
 dsimp only[List.getElem_cons_zero,Nat.zero_mul,Nat.add_zero] at d0 d1 d2 d3 hu
 have hlk:s.lookup tn=(l.lookup tn).map (·.1):=by rw[hl];exact a6r (fun y:Co×Value=>y.1) l tn
 have hlm:(l.map (fun x=>(x.1,coV x.2.1 x.2.2))).lookup tn=(l.lookup tn).map (fun y=>coV y.1 y.2):=a6r (fun y:Co×Value=>coV y.1 y.2) l tn
 have LK:=fun w' (hb':Below w.heap.size w w')=>(HM.out.next hb').look (t:=139) Tryz.underlying2 Tryz.underlying139 (b9s w') hfit.n
 rw[hlm] at LK
 rw[e2,hlk]
 have LK1:=fun o=>LK (w.alloc o) (A o)
 have HA:=a0a A
 have hxv:=hu.parts.shape
 obtain⟨ux,cx,rfl,-,-⟩:=hxv
 have HU:=a0a hu
 clear LK hlm hlk e2 HPa hbx hm hls hs hD hx h4 A hu
 have A2:∀ o o',Below w.heap.size w ((w.alloc o).alloc o'):=fun o o'=>((ZD _ _).alloc (ZB _) _).alloc (by simp) _
 have HA2:=a0a A2
 clear A2
 replace d0:w.cell? ⟨b,off,none⟩=some (.int .i64 x.op):=by simpa using d0
 replace d1:w.cell? ⟨b,off+1,none⟩=some (.int .i64 x.n):=by simpa using d1
 replace d2:w.cell? ⟨b,off+2,none⟩=some (.int .i64 x.m):=by simpa using d2
 replace d3:w.cell? ⟨b,off+3,none⟩=some (.slice ux x.parts.length cx):=by simpa using d3
 cases hq1:l.lookup tn with
 | none=>
   rw[hq1] at LK1
   dsimp only[Option.map_none,Option.getD_none,Option.isSome_none] at LK1 ⊢
   have hlen:l.length<=256:=by have:=hG.len;rw[hl] at this;simpa using this
   obtain⟨W5,h5r,h5m,h5t⟩:=(HM.out.next (HA2.out (.cells #[.int .i64 7,.int .i64 tn,.int .i64 tm,.slice (some ⟨b,off,none⟩) 1 cap] 30) (.cells #[.int .i64 0,.int .i64 0,.int .i64 0,.slice none 0 0] 30)).drew).store (t:=139) Tryz.underlying2 Tryz.underlying139 (by simp;omega) hfit.n (coV x (.slice ux x.parts.length cx))
   have HM5:=a0a h5m
   have HT5:=a0a h5t
   clear h5m h5t hlen hG hq1 hfit
   go_enter Tryz.func83,Tryz.ntmps83
   go_wp2_with fail
   go_region
   go_wp2_with fail
   go_ret
   have B2:=(HA2.out (.cells #[.int .i64 7,.int .i64 tn,.int .i64 tm,.slice (some ⟨b,off,none⟩) 1 cap] 30) (.cells #[.int .i64 0,.int .i64 0,.int .i64 0,.slice none 0 0] 30)).drew
   refine⟨rfl,[mb],⟨rfl,(HBx.out.next B2).turn HT5.out (by simp[hgm]),hW,hgm,(tn,x,.slice ux x.parts.length cx)::l,by simp[hl],HM5.out,fun y hy=>?_⟩,(a0h.of_below (S:=[mb]) B2).trans HT5.out (fun _ hi=>.inl hi),fun b hm=>.inl hm⟩
   rcases List.mem_cons.1 hy with rfl | hy
   ·exact HU.out
   ·exact HLS.out y hy
 | some y=>
   obtain⟨c,yv⟩:=y
   rw[hq1] at LK1
   dsimp only[Option.map_some,Option.getD_some,Option.isSome_some] at LK1 ⊢
   have hy:a0p W c yv:=HLS.out _ (b1U hq1)
   obtain⟨ya,yc,rfl,-,-⟩:=hy.parts.shape
   have HSm:=a0a (fun w' (hw':Below w.heap.size w w')=>c0p c x (.slice ya c.parts.length yc) (.slice ux x.parts.length cx) w' (q c x) (hq c x) (a0p.next (a0p.next hy hb) hw') (a0p.next (a0p.next HU.out hb) hw'))
   have hP:Hid (∀ w',Below w.heap.size w w'->a0U (c0O W g mb) (s,q c x) [mb] w (.returned (.bool (q c x))) w'):=fun w' hw'=>⟨rfl,[mb],⟨rfl,HBx.out.next hw',hW,hgm,l,hl,HM.out.next hw',HLS.out⟩,a0h.of_below hw',fun b hm=>.inl hm⟩
   generalize q c x=R at *
   clear hy hq1 hfit hG hq
   obtain⟨yk,yn,ym,yps⟩:=c
   dsimp only at *
   generalize yps.length=L1 at *
   generalize hLx:x.parts.length=L2 at *
   go_enter Tryz.func83,Tryz.ntmps83
   go_wp2_with fail
   obtain⟨Y0,Y1,Y2⟩:=a0n w 30 30 [.int .i64 7,.int .i64 tn,.int .i64 tm,.slice (some ⟨b,off,none⟩) 1 cap] [.int .i64 yk,.int .i64 yn,.int .i64 ym,.slice ya L1 yc]
   have B4:=a0a Y2
   have p3:=Y0.cell 3 _ rfl
   obtain⟨q0,q1,q2,q3⟩:=Box.c4 Y1
   replace d0:=a0c Y2 d0
   replace d1:=a0c Y2 d1
   replace d2:=a0c Y2 d2
   replace d3:=a0c Y2 d3
   clear Y0 Y1 Y2 LK1 c0 l0
   generalize hW4:(w.alloc _).alloc _=w4 at *
   clear hW4
   obtain⟨f,hf1,hf2⟩:=a7N w4
   have HF1:=a0a hf1
   have HF2:=a0a hf2
   have p3':=fun n=>a0c (hf1 n) p3
   have q0':=fun n=>a0c (hf1 n) q0
   have q1':=fun n=>a0c (hf1 n) q1
   have q2':=fun n=>a0c (hf1 n) q2
   have q3':=fun n=>a0c (hf1 n) q3
   have d0':=fun n=>a0c (hf1 n) d0
   have d1':=fun n=>a0c (hf1 n) d1
   have d2':=fun n=>a0c (hf1 n) d2
   have d3':=fun n=>a0c (hf1 n) d3
   clear hf1 hf2 p3 q0 q1 q2 q3 d0 d1 d2 d3
   refine a0i f (by kernel_rfl) (by kernel_rfl) (HF2.out _ (ZD _ _).drew) ?_
   repeat (go_big_quiet_step (first|(go_at_call 84;with_reducible refine ZE (HSm.out _ (a0b B4.out (HF1.out _) B4.out.size)) ?_;rintro e W1 ⟨rfl,b5⟩;exact⟨rfl,HF2.out _ (a0b (HF1.out _) b5 (HF1.out _).size)⟩)))
   refine wpQuiet_nil ?_
   intro w6 hw6
   obtain⟨n6,rfl⟩:=hw6
   have B6:=a0a (a0b B4.out (HF1.out n6) B4.out.size)
   clear p3' q0' q1' q2' q3' d0' d1' d2' d3'
   generalize f n6=w6 at *
   go_wp2_with fail
   go_ret
   exact hP.out _ B6.out
theorem b9u (q:Co->Co->Bool)(hq:∀ a b,q a b=true↔a=b)(W:World)(g mb:Nat):b8t W (c0O W g mb) (a0M q) c0P b7E 83 #[.pointer (some ⟨g,0,none⟩)] where
 next:=fun s F w w' ⟨a,b,c,d,l,e1,e2,e3⟩ hb=>⟨a,b.next hb,c,d,l,e1,e2.next hb,e3⟩
 lt:=fun s F w ⟨a,b,c,d,l,e1,e2,e3⟩ k hk=>by
  subst a
  simp at hk
  subst hk
  exact⟨c,e2.lt⟩
 good:=fun s t hs hb=>b3F q s t hs hb
 call:=fun s F t v w hD hG hR hb hs=>b6t q hq W g mb s F t v w hD hG hR hb hs
theorem c0b:Ent 83:=by intro args W;kernel_rfl
set_option maxHeartbeats 1000000 in
theorem a9L (q:Co->Co->Bool)(hq:∀ a b,q a b=true↔a=b)(p:PlP)(v:PlV)(w:World)(hD:∀ x,x∈a2P p->b7E x)(hs:a4n w p v):Calls Tryz.prog 47 #[plV p v] w fun e w'=>e=.returned (.bool (a1W q p))/\Below w.heap.size w w':=by
 have HW:=a0a (fun g mb F w' hR hb=>b4c c0b (b9u q hq w g mb) p v hD [] F w' ⟨by simp,fun x hx=>by cases hx⟩ hR hb hs)
 obtain⟨a1,c1,a2,c2,a3,c3,a4,c4,a5,c5,rfl,-⟩:=hs.shapes
 have HE:Hid ((a0d (a0M q) (a2P p) []).2=a1W q p):=a0a rfl
 have hmk:∀ W:World,(Instr.makeMap 139 none).run Tryz.prog W=.ok (.map (some W.heap.size)) (W.alloc (.map #[] 0)):=fun W=>by kernel_rfl
 have A3:∀ o o' o'',Below w.heap.size w (((w.alloc o).alloc o').alloc o''):=fun o o' o''=>(((ZD _ _).alloc (ZB _) _).alloc (by simp) _).alloc (by simp;omega) _
 have HR3:Hid (∀ o,c0O w (w.heap.size+1+1) (w.heap.size+1) [] [w.heap.size+1] (((w.alloc o).alloc (.map #[] 0)).alloc (.cells #[.map (some (w.heap.size+1))] 139))):=fun o=>
  ⟨rfl,by simpa using Box.new ((w.alloc o).alloc (.map #[] 0)) [.map (some (w.heap.size+1))] 139,by omega,by omega,[],rfl,(show a7W 2 ((w.alloc o).alloc (.map #[] 0)) (w.heap.size+1) [] by simpa using a7W.made 2 (w.alloc o)).next ((ZD _ _).alloc (ZB _) _),fun x hx=>by cases hx⟩
 have HA3:=a0a A3
 clear hs hD A3
 generalize a1W q p=B at *
 go_enter Tryz.func47,Tryz.ntmps47
 go_wp2_with fail
 refine ZE (HW.out _ _ _ _ (HR3.out _) (HA3.out _ _ _)) ?_
 rintro e w1 ⟨he,F',-,t1,-⟩
 rw[HE.out] at he
 subst he
 have B1:Hid (Below w.heap.size w w1):=(HA3.out _ _ _).trans (t1.below (fun k hk=>by simp at hk;omega) (by simp;omega))
 clear t1 HW
 go_wp2_with fail
 go_ret
 exact⟨rfl,B1.out⟩
abbrev ruV (r:RuP):Value:=.agg #[.int .i64 r.mn,.int .i64 r.mx,.int .i64 r.st,.int .i64 r.up,.int .i64 r.dn]
def a7K (s:Int):Bool:=decide (0<=s/\s<=604800)
theorem b8f (s:Int)(w:World):Calls Tryz.prog 74 #[.int .i64 s] w fun e w'=>e=.returned (.bool (a7K s))/\w=w':=by
 by_cases h1:0<=s
 ·by_cases h2:s<=604800
  ·have hb:a7K s=true:=decide_eq_true ⟨h1,h2⟩
   rw[hb]
   go_enter Tryz.func74,Tryz.ntmps74
   go_wp2_with fail
   go_ret
   exact⟨rfl,rfl⟩
  ·have hb:a7K s=false:=decide_eq_false fun h=>h2 h.2
   rw[hb]
   go_enter Tryz.func74,Tryz.ntmps74
   go_wp2_with fail
   go_ret
   exact⟨rfl,rfl⟩
 ·have hb:a7K s=false:=decide_eq_false fun h=>h1 h.1
  rw[hb]
  go_enter Tryz.func74,Tryz.ntmps74
  go_wp2_with fail
  go_ret
  exact⟨rfl,rfl⟩
def a8l (a b c d e:Int):Bool:=decide (0<=a/\a<=b/\1<=b/\b<=1000000/\1<=c/\c<=1000000/\0<=d/\d<=604800/\0<=e/\e<=604800)
set_option maxHeartbeats 2000000 in
set_option maxRecDepth 20000 in
theorem b8Z (a b c d e:Int)(w:World):Calls Tryz.prog 53 #[.agg #[.int .i64 a,.int .i64 b,.int .i64 c,.int .i64 d,.int .i64 e]] w fun x w'=>x=.returned (.bool (a8l a b c d e))/\Below w.heap.size w w':=by
 have HB:=a0a ((ZD w.heap.size w).alloc (ZB _) (.cells #[.int .i64 a,.int .i64 b,.int .i64 c,.int .i64 d,.int .i64 e] 24))
 generalize hx:a8l a b c d e=x
 have HX:=a0a hx
 clear hx
 by_cases h0:0<=a
 case neg=>
  have e1:x=false:=by rw[<-HX.out];exact decide_eq_false (fun hh=>h0 (by omega))
  subst e1
  go_enter Tryz.func53,Tryz.ntmps53
  go_wp2_with fail
  go_ret
  exact⟨rfl,HB.out⟩
 by_cases h1:a<=b
 case neg=>
  have e1:x=false:=by rw[<-HX.out];exact decide_eq_false (fun hh=>h1 (by omega))
  subst e1
  go_enter Tryz.func53,Tryz.ntmps53
  go_wp2_with fail
  go_ret
  exact⟨rfl,HB.out⟩
 by_cases h2:1<=b
 case neg=>
  have e1:x=false:=by rw[<-HX.out];exact decide_eq_false (fun hh=>h2 (by omega))
  subst e1
  go_enter Tryz.func53,Tryz.ntmps53
  go_wp2_with fail
  go_ret
  exact⟨rfl,HB.out⟩
 by_cases h3:b<=1000000
 case neg=>
  have e1:x=false:=by rw[<-HX.out];exact decide_eq_false (fun hh=>h3 (by omega))
  subst e1
  go_enter Tryz.func53,Tryz.ntmps53
  go_wp2_with fail
  go_ret
  exact⟨rfl,HB.out⟩
 by_cases h4:1<=c
 case neg=>
  have e1:x=false:=by rw[<-HX.out];exact decide_eq_false (fun hh=>h4 (by omega))
  subst e1
  go_enter Tryz.func53,Tryz.ntmps53
  go_wp2_with fail
  go_ret
  exact⟨rfl,HB.out⟩
 by_cases h5:c<=1000000
 case neg=>
  have e1:x=false:=by rw[<-HX.out];exact decide_eq_false (fun hh=>h5 (by omega))
  subst e1
  go_enter Tryz.func53,Tryz.ntmps53
  go_wp2_with fail
  go_ret
  exact⟨rfl,HB.out⟩
 by_cases h6:0<=d
 case neg=>
  have e1:x=false:=by rw[<-HX.out];exact decide_eq_false (fun hh=>h6 (by omega))
  subst e1
  go_enter Tryz.func53,Tryz.ntmps53
  go_wp2_with fail
  go_ret
  exact⟨rfl,HB.out⟩
 by_cases h7:d<=604800
 case neg=>
  have e1:x=false:=by rw[<-HX.out];exact decide_eq_false (fun hh=>h7 (by omega))
  subst e1
  go_enter Tryz.func53,Tryz.ntmps53
  go_wp2_with fail
  go_ret
  exact⟨rfl,HB.out⟩
 by_cases h8:0<=e
 case neg=>
  have e1:x=false:=by rw[<-HX.out];exact decide_eq_false (fun hh=>h8 (by omega))
  subst e1
  go_enter Tryz.func53,Tryz.ntmps53
  go_wp2_with fail
  go_ret
  exact⟨rfl,HB.out⟩
 by_cases h9:e<=604800
 case neg=>
  have e1:x=false:=by rw[<-HX.out];exact decide_eq_false (fun hh=>h9 (by omega))
  subst e1
  go_enter Tryz.func53,Tryz.ntmps53
  go_wp2_with fail
  go_ret
  exact⟨rfl,HB.out⟩
 have e1:x=true:=by rw[<-HX.out];exact decide_eq_true ⟨h0,h1,h2,h3,h4,h5,h6,h7,h8,h9⟩
 subst e1
 go_enter Tryz.func53,Tryz.ntmps53
 go_wp2_with fail
 go_ret
 exact⟨rfl,HB.out⟩
theorem b6d (r:RuP)(w:World):Calls Tryz.prog 53 #[ruV r] w fun x w'=>x=.returned (.bool (ruB r))/\Below w.heap.size w w':=b8Z r.mn r.mx r.st r.up r.dn w
set_option maxHeartbeats 2000000 in
set_option maxRecDepth 20000 in
theorem c0q (a b c d e:Int)(w:World):Calls Tryz.prog 44 #[.agg #[.int .i64 a,.int .i64 b,.int .i64 c,.int .i64 d,.int .i64 e]] w fun x w'=>x=.returned (.bool (a8l a b c d e))/\Below w.heap.size w w':=by
 have HB:=a0a ((ZD w.heap.size w).alloc (ZB _) (.cells #[.int .i64 a,.int .i64 b,.int .i64 c,.int .i64 d,.int .i64 e] 24))
 have HC1:=a0a (fun W=>b8f d W)
 have HC2:=a0a (fun W=>b8f e W)
 generalize hx:a8l a b c d e=x
 have HX:=a0a hx
 clear hx
 by_cases h0:0<=a
 case neg=>
  by_cases h4:1<=c
  ·by_cases h5:c<=1000000
   ·skip
    have e1:x=false:=by rw[<-HX.out];exact decide_eq_false (fun hh=>h0 (by omega))
    subst e1
    go_enter Tryz.func44,Tryz.ntmps44
    go_wp2_with fail
    go_ret
    exact⟨rfl,HB.out⟩
   ·skip
    have e1:x=false:=by rw[<-HX.out];exact decide_eq_false (fun hh=>h0 (by omega))
    subst e1
    go_enter Tryz.func44,Tryz.ntmps44
    go_wp2_with fail
    go_ret
    exact⟨rfl,HB.out⟩
  ·skip
   have e1:x=false:=by rw[<-HX.out];exact decide_eq_false (fun hh=>h0 (by omega))
   subst e1
   go_enter Tryz.func44,Tryz.ntmps44
   go_wp2_with fail
   go_ret
   exact⟨rfl,HB.out⟩
 by_cases h1:a<=b
 case neg=>
  by_cases h4:1<=c
  ·by_cases h5:c<=1000000
   ·skip
    have e1:x=false:=by rw[<-HX.out];exact decide_eq_false (fun hh=>h1 (by omega))
    subst e1
    go_enter Tryz.func44,Tryz.ntmps44
    go_wp2_with fail
    go_ret
    exact⟨rfl,HB.out⟩
   ·skip
    have e1:x=false:=by rw[<-HX.out];exact decide_eq_false (fun hh=>h1 (by omega))
    subst e1
    go_enter Tryz.func44,Tryz.ntmps44
    go_wp2_with fail
    go_ret
    exact⟨rfl,HB.out⟩
  ·skip
   have e1:x=false:=by rw[<-HX.out];exact decide_eq_false (fun hh=>h1 (by omega))
   subst e1
   go_enter Tryz.func44,Tryz.ntmps44
   go_wp2_with fail
   go_ret
   exact⟨rfl,HB.out⟩
 by_cases h2:1<=b
 case neg=>
  by_cases h4:1<=c
  ·by_cases h5:c<=1000000
   ·skip
    have e1:x=false:=by rw[<-HX.out];exact decide_eq_false (fun hh=>h2 (by omega))
    subst e1
    go_enter Tryz.func44,Tryz.ntmps44
    go_wp2_with fail
    go_ret
    exact⟨rfl,HB.out⟩
   ·skip
    have e1:x=false:=by rw[<-HX.out];exact decide_eq_false (fun hh=>h2 (by omega))
    subst e1
    go_enter Tryz.func44,Tryz.ntmps44
    go_wp2_with fail
    go_ret
    exact⟨rfl,HB.out⟩
  ·skip
   have e1:x=false:=by rw[<-HX.out];exact decide_eq_false (fun hh=>h2 (by omega))
   subst e1
   go_enter Tryz.func44,Tryz.ntmps44
   go_wp2_with fail
   go_ret
   exact⟨rfl,HB.out⟩
 by_cases h3:b<=1000000
 case neg=>
  by_cases h4:1<=c
  ·by_cases h5:c<=1000000
   ·skip
    have e1:x=false:=by rw[<-HX.out];exact decide_eq_false (fun hh=>h3 (by omega))
    subst e1
    go_enter Tryz.func44,Tryz.ntmps44
    go_wp2_with fail
    go_ret
    exact⟨rfl,HB.out⟩
   ·skip
    have e1:x=false:=by rw[<-HX.out];exact decide_eq_false (fun hh=>h3 (by omega))
    subst e1
    go_enter Tryz.func44,Tryz.ntmps44
    go_wp2_with fail
    go_ret
    exact⟨rfl,HB.out⟩
  ·skip
   have e1:x=false:=by rw[<-HX.out];exact decide_eq_false (fun hh=>h3 (by omega))
   subst e1
   go_enter Tryz.func44,Tryz.ntmps44
   go_wp2_with fail
   go_ret
   exact⟨rfl,HB.out⟩
 by_cases h4:1<=c
 case neg=>
  have e1:x=false:=by rw[<-HX.out];exact decide_eq_false (fun hh=>h4 (by omega))
  subst e1
  go_enter Tryz.func44,Tryz.ntmps44
  go_wp2_with fail
  go_ret
  exact⟨rfl,HB.out⟩
 by_cases h5:c<=1000000
 case neg=>
  have e1:x=false:=by rw[<-HX.out];exact decide_eq_false (fun hh=>h5 (by omega))
  subst e1
  go_enter Tryz.func44,Tryz.ntmps44
  go_wp2_with fail
  go_ret
  exact⟨rfl,HB.out⟩
 have e1:x=(a7K d&&a7K e):=by
  rw[<-HX.out]
  unfold a8l a7K
  rw[<-Bool.decide_and]
  exact decide_eq_decide.2 ⟨fun h=>by omega,fun h=>by omega⟩
 subst e1
 generalize a7K d=y1 at *
 generalize a7K e=y2 at *
 clear HX
 cases y1 with
 | false=>
   go_enter Tryz.func44,Tryz.ntmps44
   go_wp2_with fail
   refine ZE (HC1.out _) ?_
   rintro e w1 ⟨rfl,rfl⟩
   go_wp2_with fail
   go_ret
   exact⟨rfl,HB.out⟩
 | true=>
   go_enter Tryz.func44,Tryz.ntmps44
   go_wp2_with fail
   refine ZE (HC1.out _) ?_
   rintro e w1 ⟨rfl,rfl⟩
   go_wp2_with fail
   refine ZE (HC2.out _) ?_
   rintro e w1 ⟨rfl,rfl⟩
   go_wp2_with fail
   go_ret
   exact⟨rfl,HB.out⟩
theorem b7n (r:RuP)(w:World):Calls Tryz.prog 44 #[ruV r] w fun x w'=>x=.returned (.bool (ruB r))/\Below w.heap.size w w':=c0q r.mn r.mx r.st r.up r.dn w
theorem a4k {α : Type}{f : α -> Bool}{l:List α}{k:Nat}(h:k<l.length):(l.take (k+1)).all f=((l.take k).all f&&f l[k]):=by
 rw[List.take_succ_eq_append_getElem h,List.all_append];simp only[List.all_cons,List.all_nil,Bool.and_true]
theorem a8X {α : Type}{f : α -> Bool}{l:List α}{k:Nat}(h:k<l.length)(hf:f l[k]=false):l.all f=false:=by
 rw[List.all_eq_false]
 exact⟨l[k],List.getElem_mem h,by simp[hf]⟩
theorem b7i {α : Type}{l:List α}{k:Nat}{d : α}(h:k<l.length):l.getD k d=l[k]:=by simp[List.getD,h]
set_option maxHeartbeats 1000000 in
theorem b5d (l:List Cr)(v:Value)(w:World)(hF:a2M w)(hok:∀ x,x∈l->x.Fits)(hs:c0E w v l):
 Calls Tryz.prog 76 #[v,.func (.func 77) #[] #[]] w fun e w'=>e=.returned (.bool (l.all cfB))/\Below w.heap.size w w':=by
 by_cases hn:l=[]
 ·subst hn
  obtain⟨ad,cap,rfl,-,-⟩:=a0Q.shape hs
  clear hF hok hs
  go_enter Tryz.func76,Tryz.ntmps76
  go_wp2_with fail
  refine wp_loop_rounds 1 ?_
  rw[rounds_succ]
  go_wp2_with fail
  go_ret
  exact⟨rfl,ZD _ _⟩
 ·obtain⟨b,off,cap,rfl,hle,hc,hbl,hx⟩:=a0Q.open hs (List.length_pos_iff.2 hn)
  have HX:=a0a hx
  have HF:=a0a hF
  have HOk:=a0a hok
  obtain⟨N,hN⟩:∃ N,Hid (N=l.length):=⟨_,rfl⟩
  have hpos:0<N:=by rw[hN.out];exact List.length_pos_iff.2 hn
  rw[<-hN.out] at hle ⊢
  obtain⟨Q,hQ⟩:∃ Q,Hid (Q=l.all cfB):=⟨_,rfl⟩
  rw[<-hQ.out]
  clear hF hok hs hn hx
  go_enter Tryz.func76,Tryz.ntmps76
  go_wp2_with fail
  go_loopw [9] (fun i wr=>∃ k:Nat,i=.int .i64 (k:Nat)/\k<=N/\Hid ((l.take k).all cfB=true)/\Hid (Below w.heap.size w wr)) (fun i _=>match i with | .int _ p=>((N:Int)-p).toNat | _=>0)
  case atStart=>exact⟨0,rfl,by omega,a0a rfl,ZD _ _⟩
  case round=>
   obtain⟨k,rfl,hk,HK,HB⟩:=hrel
   by_cases hlt:k<N
   ·have hlt':(k:Int)<(N:Int):=by omega
    have hl1:k<l.length:=by rw[<-hN.out];exact hlt
    have hxk:=HX.out k hl1
    rw[b7i hl1] at hxk
    have c0:wr.cell? ⟨b,off+k*5,none⟩=_:=a0c HB.out (hxk 0 _ rfl)
    have c1:=a0c HB.out (hxk 1 _ rfl)
    have c2:=a0c HB.out (hxk 2 _ rfl)
    have c3:=a0c HB.out (hxk 3 _ rfl)
    have c4:=a0c HB.out (hxk 4 _ rfl)
    have lbr:b<wr.heap.size:=ZA hbl HB.out.size
    have A:∀ o,Below wr.heap.size wr (wr.alloc o):=fun o=>(ZD _ _).alloc (ZB _) _
    have HA:=a0a A
    have HC:=a0a (fun o=>b2y l[k] (HOk.out _ (List.getElem_mem hl1)) (wr.alloc o) ((HF.out.later HB.out).later (A o)))
    have HT:=a0a (a4k (f:=cfB) hl1)
    have HNo:=a0a (fun h=>a8X (f:=cfB) hl1 h)
    clear hxk A
    generalize l[k]=x at *
    clear hl1
    obtain⟨y,hy⟩:∃ y,Hid (cfB x=y):=⟨_,rfl⟩
    unfold a3s at HC
    rw[hy.out] at HC HT HNo
    go_wp2_with fail
    refine ZE (HC.out _) ?_
    rintro e w1 ⟨rfl,b1⟩
    have B1:=a0a (a0b HB.out (a0b (HA.out _) b1 (by simp)) HB.out.size)
    clear b1 c0 c1 c2 c3 c4
    cases y with
    | false=>
      have hq0:Hid (Q=false):=a0a (by rw[hQ.out];exact HNo.out rfl)
      go_wp2_with fail
      go_ret
      exact⟨by rw[hq0.out];rfl,B1.out⟩
    | true=>
      have H3:Hid ((l.take (k+1)).all cfB=true):=a0a (by rw[HT.out,HK.out];rfl)
      go_wp2_with fail
      go_roundw
      case rel=>exact⟨k+1,by go_num,by omega,H3.out,B1.out⟩
      case measure=>simp;omega
   ·have hlt':¬(k:Int)<(N:Int):=by omega
    have hkN:k=N:=by omega
    subst hkN
    have e1:l.take k=l:=by rw[hN.out];exact List.take_length
    rw[e1,<-hQ.out] at HK
    go_wp2_with fail
    go_ret
    exact⟨by rw[HK.out];rfl,HB.out⟩
set_option maxHeartbeats 1000000 in
theorem a8p (p:PlP)(v:PlV)(w:World)(hF:a2M w)(hs:a4n w p v):Calls Tryz.prog 45 #[plV p v] w fun e w'=>e=.returned (.bool (a3z p))/\Below w.heap.size w w':=by
 have HS:=a0a hs
 have HFl:=a0a hF
 have HAl:=a0a (fun W (hW:Below w.heap.size w W)=>b5d p.crons v.cr W (HFl.out.later hW) HS.out.cok (a0Q.next HS.out.cr hW))
 have HWo:=a0a hs.wok
 have HWi:=a0a hs.wi
 obtain⟨a1,c1,a2,c2,a3,c3,a4,c4,a5,c5,rfl,g1,g2,g3,g4⟩:=hs.shapes
 dsimp only at HAl HWi
 obtain⟨Q,hQ⟩:∃ Q,Hid (Q=a3z p):=⟨_,rfl⟩
 rw[<-hQ.out]
 have hQ2:Hid (Q=(p.wins.all (wiB p.mets.length)&&p.crons.all cfB)):=hQ
 obtain⟨N,hN⟩:∃ N,Hid (N=p.wins.length):=⟨_,rfl⟩
 obtain⟨M,hM⟩:∃ M,Hid (M=p.mets.length):=⟨_,rfl⟩
 rw[<-hM.out] at hQ2
 clear hs hF
 have Y0:=a0a (Box.new w (plL p ⟨.slice a1 p.mets.length c1,.slice a2 p.wins.length c2,.slice a3 p.crons.length c3,.slice a4 p.gs.length c4,.slice a5 p.fin.parts.length c5⟩) 32)
 have B0:=a0a ((ZD w.heap.size w).alloc (ZB _) (.cells (plL p ⟨.slice a1 p.mets.length c1,.slice a2 p.wins.length c2,.slice a3 p.crons.length c3,.slice a4 p.gs.length c4,.slice a5 p.fin.parts.length c5⟩).toArray 32))
 rw[<-hM.out,<-hN.out] at Y0 B0 ⊢
 rw[<-hN.out] at g2
 rw[<-hM.out] at g1
 generalize p.wins=wins at *
 go_enter Tryz.func45,Tryz.ntmps45
 go_wp2_with fail
 generalize hw0:w.alloc _=w0 at *
 clear hw0
 go_loopw [8] (fun i wr=>∃ k:Nat,i=.int .i64 (k:Nat)/\k<=N/\Hid ((wins.take k).all (wiB M)=true)/\Hid (Below w0.heap.size w0 wr)) (fun i _=>match i with | .int _ p=>((N:Int)-p).toNat | _=>0)
 case atStart=>exact⟨0,rfl,by omega,a0a rfl,ZD _ _⟩
 case round=>
  obtain⟨k,rfl,hk,HK,HB⟩:=hrel
  have HBw:=a0a (a0b B0.out HB.out B0.out.size)
  have X:=Y0.out.next HB.out
  have x0:=X.cell 0 _ rfl
  have x7:=X.cell 7 _ rfl
  have xl:=X.lt
  by_cases hlt:k<N
  ·have hlt':(k:Int)<(N:Int):=by omega
   have hl1:k<wins.length:=by rw[<-hN.out];exact hlt
   obtain⟨b,off,cap',hv,hle,-,hbl,hx⟩:=a0Q.open HWi.out (by omega)
   simp only[Value.slice.injEq] at hv
   obtain⟨rfl,-,rfl⟩:=hv
   have hxk:=hx k hl1
   rw[b7i hl1] at hxk
   have y0:wr.cell? ⟨b,off+k*4,none⟩=_:=a0c HBw.out (hxk 0 _ rfl)
   have y1:=a0c HBw.out (hxk 1 _ rfl)
   have y2:=a0c HBw.out (hxk 2 _ rfl)
   have y3:=a0c HBw.out (hxk 3 _ rfl)
   have lbr:b<wr.heap.size:=ZA hbl HBw.out.size
   have HA:Hid (∀ o,Below wr.heap.size wr (wr.alloc o)):=fun o=>(ZD _ _).alloc (ZB _) _
   have HC:=a0a (fun W=>b7N wins[k].m wins[k].a wins[k].s wins[k].p W)
   have HT:=a0a (a4k (f:=wiB M) hl1)
   have HNo:=a0a (fun h=>a8X (f:=wiB M) hl1 h)
   have hM2:=HWo.out _ (List.getElem_mem hl1)
   clear hxk hx hle
   generalize wins[k]=x at *
   clear hl1
   obtain⟨m,a,s,q⟩:=x
   dsimp only at *
   have hm1:=hM2.m
   obtain⟨y,hy⟩:∃ y,Hid (a2B m a s q=y):=⟨_,rfl⟩
   unfold tv at HC
   rw[hy.out] at HC
   have hwi:Hid (wiB M ⟨m,a,s,q⟩=(y&&decide (m<(M:Int)))):=by show (a2B m a s q&&_)=_;rw[hy.out]
   rw[hwi.out] at HT HNo
   clear hwi hM2
   go_wp2_with fail
   refine ZE (HC.out _) ?_
   rintro e w1 ⟨rfl,b1⟩
   have B1:=a0a (a0b HB.out (a0b (HA.out _) b1 (by simp)) HB.out.size)
   have B1w:=a0a (a0b B0.out B1.out B0.out.size)
   have Z:=(Box.new wr [.int .i64 m,.int .i64 a,.int .i64 s,.int .i64 q] 63).next b1
   have z0:=Z.cell 0 _ rfl
   have zl:=Z.lt
   have X1:=Y0.out.next B1.out
   replace x0:=X1.cell 0 _ rfl
   replace xl:=X1.lt
   clear b1 Z X1 x7 y0 y1 y2 y3 X
   cases y with
   | false=>
     have hq0:Hid (Q=false):=a0a (by rw[hQ2.out,HNo.out rfl];rfl)
     go_wp2_with fail
     go_ret
     exact⟨by rw[hq0.out];rfl,B1w.out⟩
   | true=>
     by_cases hmM:m<(M:Int)
     ·have H3:Hid ((wins.take (k+1)).all (wiB M)=true):=a0a (by rw[HT.out,HK.out,decide_eq_true hmM];rfl)
      clear HT HNo
      have hm2:¬(M:Int)<=m:=by omega
      go_wp2_with fail
      go_roundw
      case rel=>exact⟨k+1,by go_num,by omega,H3.out,B1.out⟩
      case measure=>simp;omega
     ·have hq0:Hid (Q=false):=a0a (by rw[hQ2.out,HNo.out (by rw[decide_eq_false hmM];rfl)];rfl)
      clear HT HNo
      have hm2:(M:Int)<=m:=by omega
      go_wp2_with fail
      go_ret
      exact⟨by rw[hq0.out];rfl,B1w.out⟩
  ·have hlt':¬(k:Int)<(N:Int):=by omega
   have hkN:k=N:=by omega
   have e1:wins.take k=wins:=by rw[hkN,hN.out];exact List.take_length
   rw[e1] at HK
   have hq3:Hid (Q=p.crons.all cfB):=a0a (by rw[hQ2.out,HK.out];rfl)
   rw[<-hq3.out] at HAl
   clear hq3 hQ2 hQ HK e1
   go_wp2_with fail
   refine ZE (HAl.out _ HBw.out) ?_
   rintro e w1 ⟨rfl,b1⟩
   have B1:=kb HBw b1
   clear b1 x0 x7
   go_wp2_with fail
   go_ret
   exact⟨rfl,B1.out⟩
end Go.Proofs.YtbddbnjhmdbkbaaGreatDoor

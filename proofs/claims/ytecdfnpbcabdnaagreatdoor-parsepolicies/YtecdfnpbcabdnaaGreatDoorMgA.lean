import Derived.Test.YtecdfnpbcabdnaaGreatDoorMiI
import Derived.Deep.RegionHeld3
namespace Go.Proofs.YtecdfnpbcabdnaaGreatDoor
open Go.RowKit Go.Lib
abbrev Rdr (w:World)(b:Nat)(s:ByteArray)(i:Nat):Prop:=Box w b [.string s,.int .i64 (i:Nat)]
theorem clone_c (x:ByteArray)(hx:x.size<=1048576)(w:World):Calls Tryz.prog 133 #[.string x] w fun e w'=>e=.returned (.string x)/\Below w.heap.size w w':=by
 have C:=fun wx=>Go.Proofs.Tryz.stringslite_Clone x wx (by omega)
 go_enter Tryz.func133,Tryz.ntmps133
 go_wp2_with fail
 refine(C _).mono ?_
 rintro e w1 ⟨rfl,b1⟩
 go_wp2_with fail
 go_ret
 exact⟨rfl,b1⟩
theorem keepc {w0 w1:World}{p:Addr}{v:Value}(hb:Below w0.heap.size w0 w1)(hc:w0.cell? p=some v):w1.cell? p=some v/\p.block<w1.heap.size:=
 have hl:=World.block_lt_of_cell? w0 p hc
 ⟨(hb.cell hl).trans hc,Nat.lt_of_lt_of_le hl hb.size⟩
theorem keepf {w0 w1:World}{p:Addr}{v:Value}(hb:Below w0.heap.size w0 w1)(hc:w0.cell? p=some v)(hf:w0.frozen? p=false):w1.frozen? p=false:=(hb.frozen (World.block_lt_of_cell? w0 p hc)).trans hf
def tkv (k:Int)(x:ByteArray)(n:Int)(i:Nat):Value:=.agg #[.int .i64 k,.string x,.int .i64 n,.int .i64 (i:Nat)]
def Moved (w:World)(b:Nat)(s:ByteArray)(e:Nat)(w':World):Prop:=Rdr w' b s e/\Turn [b] w w'
theorem moved_set {w w1:World}{b i e:Nat}{s:ByteArray}(h:Rdr w b s i)(t:Below w.heap.size w w1)(w2:World)(t2:Below w.heap.size (w1.setCell ⟨b,1,none⟩ (.int .i64 (e:Nat))) w2):Moved w b s e w2:=by
 have h1:Rdr w1 b s i:=h.next t
 have h2:Rdr (w1.setCell ⟨b,1,none⟩ (.int .i64 (e:Nat))) b s e:=h1.set 1 (by simp) _
 refine⟨h2.later t2 h.lt,?_⟩
 have t3:Turn [b] w (w1.setCell ⟨b,1,none⟩ (.int .i64 (e:Nat))):=(Turn.of_below t).andSet _ _ (.inl (by simp))
 exact⟨t2.os.trans t3.os,t2.tape.trans t3.tape,t2.output.trans t3.output,Nat.le_trans t3.size t2.size,fun k hk hn=>(t2.block k hk).trans (t3.block k hk hn)⟩
theorem below_four {s q:Nat}{w w':World}(h:Below s w w')(hq:s<=q)(v0 v1 v2 v3:Value):Below s w ((((w'.setCell ⟨q,0,none⟩ v0).setCell ⟨q,1,none⟩ v1).setCell ⟨q,2,none⟩ v2).setCell ⟨q,3,none⟩ v3):=
 ((((h.setCell hq _).setCell hq _).setCell hq _).setCell hq _)
set_option maxHeartbeats 2000000 in
theorem take_c (b i e:Nat)(s x:ByteArray)(k n:Int)(hx:x.size<=1048576)(w:World)(h:Rdr w b s i):
 Calls Tryz.prog 116 #[.pointer (some ⟨b,0,none⟩),.int .i64 (e:Nat),.int .i64 k,.string x,.int .i64 n] w fun r w'=>r=.returned (tkv k x n i)/\Moved w b s e w':=by
 obtain⟨c0,c1,f0,f1⟩:=h.two
 have hlt:=h.lt
 have HC:=hid2 (fun wx=>clone_c x hx wx)
 have H:=hid2 h
 clear h
 go_enter Tryz.func116,Tryz.ntmps116
 go_wp2_with fail
 go_region_held3 (fun w'=>w'.cell? ⟨b,1,none⟩=some (.int .i64 (i:Nat))/\w'.frozen? ⟨b,1,none⟩=false) (simp[go_sem, *]) (first|(go_at_call 133;refine Calls.mono (HC.out _) ?_;rintro r w1 ⟨rfl,b1⟩;obtain⟨m1,l1⟩:=keepc b1 (p:=⟨b,1,none⟩) (v:=.int .i64 (i:Nat)) (by simp[go_sem, *]);have m2:=keepf b1 (p:=⟨b,1,none⟩) (v:=.int .i64 (i:Nat)) (by simp[go_sem, *]) (by simp[go_sem, *]);have p0:=b1.cell (p:=⟨w.heap.size,0,none⟩);simp[go_sem] at p0;have pf0:=b1.frozen (p:=⟨w.heap.size,0,none⟩);simp[go_sem] at pf0;have p1:=b1.cell (p:=⟨w.heap.size,1,none⟩);simp[go_sem] at p1;have pf1:=b1.frozen (p:=⟨w.heap.size,1,none⟩);simp[go_sem] at pf1;have p2:=b1.cell (p:=⟨w.heap.size,2,none⟩);simp[go_sem] at p2;have pf2:=b1.frozen (p:=⟨w.heap.size,2,none⟩);simp[go_sem] at pf2;have p3:=b1.cell (p:=⟨w.heap.size,3,none⟩);simp[go_sem] at p3;have pf3:=b1.frozen (p:=⟨w.heap.size,3,none⟩);simp[go_sem] at pf3;have q0:=b1.cell (p:=⟨w.heap.size+1,0,none⟩);simp[go_sem] at q0;have qf0:=b1.frozen (p:=⟨w.heap.size+1,0,none⟩);simp[go_sem] at qf0;have q1:=b1.cell (p:=⟨w.heap.size+1,1,none⟩);simp[go_sem] at q1;have qf1:=b1.frozen (p:=⟨w.heap.size+1,1,none⟩);simp[go_sem] at qf1;have q2:=b1.cell (p:=⟨w.heap.size+1,2,none⟩);simp[go_sem] at q2;have qf2:=b1.frozen (p:=⟨w.heap.size+1,2,none⟩);simp[go_sem] at qf2;have q3:=b1.cell (p:=⟨w.heap.size+1,3,none⟩);simp[go_sem] at q3;have qf3:=b1.frozen (p:=⟨w.heap.size+1,3,none⟩);simp[go_sem] at qf3;have l2:w.heap.size<w1.heap.size:=(keepc b1 (p:=⟨w.heap.size,0,none⟩) (v:=.int .i64 0) (by simp[go_sem])).2;have l3:=b1.size;simp at l3;have n1:b≠w.heap.size:=(by omega);have n2:b≠w.heap.size+1:=(by omega);have n3:w.heap.size≠b:=(by omega);have n4:w.heap.size+1≠b:=(by omega);have n5:b≠w1.heap.size:=(by omega);have n6:w.heap.size≠w1.heap.size:=(by omega);have B1:=hid2 b1;clear b1))
 all_goals go_wp2_with fail
 all_goals refine bodyPost_ret (v:=tkv k x n i) (by simp[results,Tryz.results116,go_sem, *];rfl) rfl ⟨rfl,?_⟩
 all_goals have t1:Below w.heap.size w w1:=below_on (by first | exact((Below.refl _ _).alloc (Nat.le_refl _) _).drew | exact((Below.refl _ _).alloc (Nat.le_refl _) _).drew.alloc (by simp) _ | exact(((Below.refl _ _).alloc (Nat.le_refl _) _).alloc (by simp) _).drew) B1.out (by simp<;>omega)
 ·refine moved_set H.out t1 _ ?_
  exact(below_four (Below.refl _ _) (Nat.le_refl _) _ _ _ _).alloc (by simp<;>omega) _
 ·exact moved_set H.out (below_four t1 (Nat.le_add_right _ 1) (.int .i64 k) (.string x) (.int .i64 n) (.int .i64 (i:Nat))) _ <| below_four (Below.refl _ _) (Nat.le_refl _) _ _ _ _
theorem Moved.rdr {w w':World}{b e:Nat}{s:ByteArray}(h:Moved w b s e w'):Rdr w' b s e:=h.1
theorem Moved.trans {w w1 w2:World}{b e e2:Nat}{s:ByteArray}(h:Moved w b s e w1)(k:Moved w1 b s e2 w2):Moved w b s e2 w2:=⟨k.1,h.2.trans k.2 (fun _ hi=>.inl hi)⟩
theorem Moved.below {w w1 w2:World}{b e:Nat}{s:ByteArray}(h:Moved w b s e w1)(k:Below w1.heap.size w1 w2):Moved w b s e w2:=⟨h.1.next k,h.2.andBelow k⟩
theorem moved_run {w w1:World}{b i e:Nat}{s:ByteArray}(h:Rdr w b s i)(t:Below w.heap.size w w1):Moved w b s e (w1.setCell ⟨b,1,none⟩ (.int .i64 (e:Nat))):=moved_set h t _ (Below.refl _ _)
def rdAt (w:World)(b:Nat):Nat:=match w.cell? ⟨b,1,none⟩ with
 | some (.int _ n)=>n.toNat
 | _=>0
theorem rdAt_of {w:World}{b i:Nat}{s:ByteArray}(h:Rdr w b s i):rdAt w b=i:=by
 unfold rdAt
 rw[h.two.2.1]
 exact Int.toNat_natCast i
set_option maxHeartbeats 3000000 in
theorem skip_c (b i:Nat)(s:ByteArray)(hi:i<=s.size)(hz:s.size<=1048576)(hv:Vd s i)(w:World)(h:Rdr w b s i):
 Calls Tryz.prog 95 #[.pointer (some ⟨b,0,none⟩)] w fun r w'=>r=.returned (.tuple #[])/\Moved w b s (skp s i) w':=by
 obtain⟨c0,c1,f0,f1⟩:=h.two
 have hlt:=h.lt
 have H:=hid2 h
 have HR:=hid2 (fun wx=>run_at s i 4 hi hz wx)
 obtain⟨j0,hj0⟩:∃ j,Hid (j=cls s 4 i):=⟨_,rfl⟩
 rw[<-hj0.out] at HR
 have hin:=cls_in s 4 i hi
 rw[<-hj0.out] at hin
 obtain⟨fin,hfin⟩:∃ j,Hid (j=skp s i):=⟨_,rfl⟩
 have hst:Hid ((if s.get! j0=35 then skp s (lineEnd s j0) else j0)=fin):=by
  show _=_
  rw[hfin.out,skp_eq hi,hj0.out]
 rw[<-hfin.out]
 have hv0:Hid (Vd s j0):=by rw[hj0.out];exact rn_vd _ _ hv
 clear h hj0 hv hfin
 go_enter Tryz.func95,Tryz.ntmps95
 go_wp2_with fail
 go_region_with (first|(go_at_call 114;refine Calls.mono (HR.out _) ?_;rintro r w1 ⟨rfl,b1⟩;obtain⟨m1,l1⟩:=keepc b1 (p:=⟨b,1,none⟩) (v:=.int .i64 (i:Nat)) (by simp[go_sem, *]);have m2:=keepf b1 (p:=⟨b,1,none⟩) (v:=.int .i64 (i:Nat)) (by simp[go_sem, *]) (by simp[go_sem, *]);have B1:=hid2 b1;clear b1))
 all_goals have M:Hid (Moved w b s j0 (w1.setCell ⟨b,1,none⟩ (.int .i64 (j0:Nat)))):=moved_run H.out (below_on (Below.refl _ _).drew B1.out (Nat.le_refl _))
 all_goals generalize w1.setCell ⟨b,1,none⟩ (.int .i64 (j0:Nat))=W at *
 all_goals clear m1 l1 m2 B1 c0 c1 f0 f1 HR H
 all_goals go_wp2_with fail
 all_goals go_loopw [] (fun wr=>∃ j:Nat,Hid (Moved w b s j wr)/\j<=s.size/\Hid (Vd s j)/\Hid ((if s.get! j=35 then skp s (lineEnd s j) else j)=fin)) (fun wr=>s.size-rdAt wr b)
 all_goals try exact⟨j0,M,hin.2,hv0,hst⟩
 all_goals (
  obtain⟨j,HM,hj,HV,HS⟩:=hrel
  have hrd:=HM.out.rdr
  obtain⟨c0,c1,f0,f1⟩:=hrd.two
  have hlt2:=hrd.lt
  have HAt:=hid2 (rdAt_of hrd)
  have hs:=fun wx=>sl_l s j hj wx
  have HP:=hid2 (fun wx=>prefix_at s j hj 35 (by decide) wx)
  obtain⟨a,bb,f,ha,hC⟩:=cut_line s j hj hz HV.out
  have HC:=hid2 hC
  have HA:=hid2 ha
  clear hC ha hst hv0 M hrd
  by_cases h35:s.get! j=35
  ·have hl:=line_past h35
   have HS2:=HS.out
   rw[if_pos h35,skp_eq hl.2] at HS2
   have HS3:=hid2 HS2
   have HR2:=hid2 (fun wx=>run_at s (lineEnd s j) 4 hl.2 hz wx)
   have hb1:(s.get! j==35)=true:=by rw[h35];rfl
   rw[hb1] at HP
   have hv2:Hid (Vd s (cls s 4 (lineEnd s j))):=rn_vd _ _ (rn_vd _ _ HV.out)
   have hc2:=cls_in s 4 (lineEnd s j) hl.2
   generalize hk2:cls s 4 (lineEnd s j)=j2 at *
   clear hk2 HS2 h35 hb1 HS HV
   have he:(j:Int)+(a.size:Int)=((lineEnd s j:Nat):Int):=by rw[HA.out];omega
   generalize lineEnd s j=le at *
   have hw1:IntKind.i64.wrap ((j:Int)+(a.size:Int))=(le:Int):=by rw[IntKind.wrap_i64];omega
   rw[<-hw1] at HR2
   clear he hw1
   go_wp2_with fail
   go_quiet (exact Calls.quiet_of_same (HP.out _))
   have q0:=drewN_b2 wr nq
   obtain⟨W2,hW2⟩:∃ W2,W2=wr.drewN nq:=⟨_,rfl⟩
   rw[<-hW2] at q0 ⊢
   have HM2:=hid2 (HM.out.below q0)
   clear hW2 c0 c1 f0 f1
   obtain⟨c0,c1,f0,f1⟩:=HM2.out.rdr.two
   go_wp2_with fail
   go_quiet (exact Calls.quiet_of (HC.out _))
   have q1:=drewN_b2 W2 nq
   obtain⟨W3,hW3⟩:∃ W3,W3=W2.drewN nq:=⟨_,rfl⟩
   rw[<-hW3] at q1 ⊢
   have HM3:=hid2 (HM2.out.below q1)
   clear hW3 c0 c1 f0 f1 HM2 HM q0 q1 HC HP
   obtain⟨c0,c1,f0,f1⟩:=HM3.out.rdr.two
   have hlt3:=HM3.out.rdr.lt
   go_wp2_with fail
   go_region_with (first|(go_at_call 114;refine Calls.mono (HR2.out _) ?_;rintro r w1 ⟨rfl,b1⟩;obtain⟨m1,l1⟩:=keepc b1 (p:=⟨b,1,none⟩) (v:=.int .i64 (j:Nat)) (by simp[go_sem, *]);have m2:=keepf b1 (p:=⟨b,1,none⟩) (v:=.int .i64 (j:Nat)) (by simp[go_sem, *]) (by simp[go_sem, *]);have B1:=hid2 b1;clear b1))
   all_goals have M:Moved w b s j2 (w1.setCell ⟨b,1,none⟩ (.int .i64 (j2:Nat))):=HM3.out.trans (moved_run HM3.out.rdr (below_on (Below.refl _ _).drew B1.out (Nat.le_refl _)))
   all_goals go_wp2_with fail
   all_goals go_roundw
   all_goals first
    | exact⟨j2,M,hc2.2,hv2,HS3⟩
    | (rw[rdAt_of M.rdr,HAt.out];omega)
  ·have hb1:(s.get! j==35)=false:=beq_eq_false_iff_ne.2 h35
   rw[hb1] at HP
   have HS2:=HS.out
   rw[if_neg h35] at HS2
   subst HS2
   clear h35 hb1 HS HC HA
   go_wp2_with fail
   go_quiet (exact Calls.quiet_of_same (HP.out _))
   have q0:=drewN_b2 wr nq
   go_wp2_with fail
   go_end0
   exact⟨rfl,HM.out.below q0⟩)
def tkV (t:Tk):Value:=.agg #[.int .i64 t.kind,.string t.text,.int .i64 t.n,.int .i64 (t.at_:Nat)]
def noV:Value:=.agg #[.int .i64 0,.string ⟨#[]⟩,.int .i64 0,.int .i64 0]
def CutPost (w:World)(b:Nat)(s:ByteArray)(i:Nat)(own:Bool)(r:TR)(e:Ending)(w':World):Prop:=
 if own=true then
  match r with
  | .ok te=>e=.returned (.tuple #[tkV te.1,.int .i64 0])/\Moved w b s te.2 w'
  | .error k=>e=.returned (.tuple #[noV,.int .i64 k])/\Moved w b s i w'
 else e=.returned (.tuple #[noV,.int .i64 0])/\Moved w b s i w'
theorem isN_cut {s:ByteArray}{i:Nat}(hi:i<s.size)(hv:Vd s i)(h1:cls s 1 i≠i):isN (s.extract i (cls s 3 i))=(decide ((seg s (fun r=>isC (r:Int) 3) i).length<=32) && !(resv (s.extract i (cls s 3 i)).data.toList)):=by
 have hin:=cls_in s 3 i (by omega)
 have hsz:=size_cut s i (cls s 3 i) hin.2
 have hc:=count_cut (fun r=>isC (r:Int) 3) i (by omega) hv
 have hs:=seg_cut (fun r=>isC (r:Int) 3) i (cls s 3 i) hin.2 i (by omega) (Nat.le_refl _) rfl hv
 rw[Nat.sub_self] at hs
 have hy:isC ((Utf8.decode s i).1:Int) 1=true:=by
  rcases cls_step (c:=1) hi with ⟨h,_⟩ | ⟨_,h⟩
  ·exact absurd h h1
  ·exact h
 have hy3:isC ((Utf8.decode s i).1:Int) 3=true:=by
  unfold isC at hy ⊢
  simp only[if_true,Int.reduceEq,if_false] at hy ⊢
  simp only[decide_eq_true_eq] at hy ⊢
  exact .inl hy
 have hp:=seg_yes (p:=fun r=>isC (r:Int) 3) hi hy3
 have hall:=seg_all s (fun r=>isC (r:Int) 3) i
 generalize hT:s.extract i (cls s 3 i)=t at *
 have e3:cls t 3 0=t.size:=by
  show rne t.size _ (rs t 0)=_
  rw[hs]
  generalize seg s (fun r=>isC (r:Int) 3) i=L at *
  clear hp hs hc
  induction L with
  | nil=>rfl
  | cons q r ih=>
    simp only[List.map_cons,rne]
    have:=hall q List.mem_cons_self
    rw[if_pos this]
    exact ih (fun x hx=>hall x (List.mem_cons_of_mem _ hx))
 have e1:¬ cls t 1 0=0:=by
  show ¬ rne t.size _ (rs t 0)=0
  rw[hs,hp]
  simp only[List.map_cons,rne]
  rw[if_pos hy]
  intro e0
  have ht0:0<t.size:=by
   have:=width_pos s i
   have hw:=width_in s i hi
   have h3:cls s 3 i=cls s 3 (i+(Utf8.decode s i).2):=rn_yes (p:=fun r=>isC (r:Int) 3) hi hy3
   have:=cls_in s 3 _ hw
   omega
  have h5:rs t 0=((Utf8.decode t 0).1,0)::rs t (0+(Utf8.decode t 0).2):=rs_step ht0
  rw[hs,hp] at h5
  simp only[List.map_cons,List.cons.injEq] at h5
  rw[h5.2] at e0
  have hw:=width_in t 0 ht0
  have:=(rne_in (fun r=>isC (r:Int) 1) t _ hw).1
  have:=width_pos t 0
  omega
 unfold isN
 rw[decide_eq_false e1,decide_eq_true e3]
 rw[hc]
 rfl
abbrev zs:List Value:=[.int .i64 0,.string ⟨#[]⟩,.int .i64 0,.int .i64 0]
structure St (w W:World)(b i:Nat)(s:ByteArray)(vs:List Value):Prop where
 rd:Rdr W b s i
 rb:Box W w.heap.size vs
 bel:Below w.heap.size w W
 lt:b<w.heap.size
theorem St.next {w W W':World}{b i:Nat}{s:ByteArray}{vs:List Value}(h:St w W b i s vs)(k:Below W.heap.size W W'):St w W' b i s vs:=⟨h.rd.next k,h.rb.next k,below_on h.bel k h.bel.size,h.lt⟩
theorem St.made {w:World}{b i:Nat}{s:ByteArray}(h:Rdr w b s i)(t:TypeId):St w (w.alloc (.cells zs.toArray t)) b i s zs:=⟨h.next ((Below.refl _ _).alloc (Nat.le_refl _) _),Box.new w zs t,(Below.refl _ _).alloc (Nat.le_refl _) _,h.lt⟩
theorem St.set {w W:World}{b i:Nat}{s:ByteArray}{u0 u1 u2 u3:Value}(h:St w W b i s [u0,u1,u2,u3])(v0 v1 v2 v3:Value):St w ((((W.setCell ⟨w.heap.size,0,none⟩ v0).setCell ⟨w.heap.size,1,none⟩ v1).setCell ⟨w.heap.size,2,none⟩ v2).setCell ⟨w.heap.size,3,none⟩ v3) b i s [v0,v1,v2,v3]:=by
 have hn:b≠w.heap.size:=by have:=h.lt;omega
 exact⟨((((h.rd.other hn).other hn).other hn).other hn),((((h.rb.set 0 (by simp) v0).set 1 (by simp) v1).set 2 (by simp) v2).set 3 (by simp) v3),below_four h.bel (Nat.le_refl _) _ _ _ _,h.lt⟩
theorem St.stay {w W:World}{b i:Nat}{s:ByteArray}{vs:List Value}(h:St w W b i s vs):Moved w b s i W:=⟨h.rd,Turn.of_below h.bel⟩
theorem St.took {w W w2:World}{b i e:Nat}{s:ByteArray}{u0 u1 u2 u3:Value}(h:St w W b i s [u0,u1,u2,u3])(m:Moved W b s e w2):Box w2 w.heap.size [u0,u1,u2,u3]/\∀ v0 v1 v2 v3,Moved w b s e ((((w2.setCell ⟨w.heap.size,0,none⟩ v0).setCell ⟨w.heap.size,1,none⟩ v1).setCell ⟨w.heap.size,2,none⟩ v2).setCell ⟨w.heap.size,3,none⟩ v3):=by
 have hn:b≠w.heap.size:=by have:=h.lt;omega
 refine⟨h.rb.turn m.2 (by simp;omega),fun v0 v1 v2 v3=>?_⟩
 have t3:Turn [b] w w2:=(Turn.of_below h.bel).trans m.2 (fun i hi=>.inl hi)
 have t2:Below w.heap.size w2 ((((w2.setCell ⟨w.heap.size,0,none⟩ v0).setCell ⟨w.heap.size,1,none⟩ v1).setCell ⟨w.heap.size,2,none⟩ v2).setCell ⟨w.heap.size,3,none⟩ v3):=below_four (Below.refl _ _) (Nat.le_refl _) _ _ _ _
 exact⟨((((m.1.other hn).other hn).other hn).other hn),t2.os.trans t3.os,t2.tape.trans t3.tape,t2.output.trans t3.output,Nat.le_trans t3.size t2.size,fun k hk hn=>(t2.block k hk).trans (t3.block k hk hn)⟩
set_option maxHeartbeats 4000000 in
theorem nameOrWord_c (b i:Nat)(s:ByteArray)(hi:i<s.size)(hz:s.size<=1048576)(hv:Vd s i)(w:World)(h:Rdr w b s i):
 Calls Tryz.prog 90 #[.pointer (some ⟨b,0,none⟩)] w (CutPost w b s i (decide (cls s 1 i≠i)) (wordT s i)):=by
 have ST:=hid2 (St.made h 47)
 have hlt:=h.lt
 have hin:=cls_in s 3 i (by omega)
 have R1:=hid2 (fun wx=>run_at s i 1 (by omega) hz wx)
 have R3:=hid2 (fun wx=>run_at s i 3 (by omega) hz wx)
 have hs:=fun wx=>sl_lh s i (cls s 3 i) hin.1 hin.2 wx
 have hxz:(s.extract i (cls s 3 i)).size<=1048576:=by rw[size_cut s i _ hin.2];omega
 have V:=hid2 (fun wx=>reserved_c (s.extract i (cls s 3 i)) wx)
 have N:=hid2 (fun wx=>isName_c (s.extract i (cls s 3 i)) (by omega) wx)
 have T:=hid2 (fun (k:Int) w' (hw:Rdr w' b s i)=>take_c b i (cls s 3 i) s (s.extract i (cls s 3 i)) k 0 hxz w' hw)
 have hnn:=fun h1=>isN_cut hi hv h1
 by_cases h1:cls s 1 i=i
 ·rw[h1] at R1
  have hP:∀ e w',e=Ending.returned (.tuple #[noV,.int .i64 0])/\Moved w b s i w'->CutPost w b s i (decide (cls s 1 i≠i)) (wordT s i) e w':=fun e w' hh=>by
   unfold CutPost
   rw[if_neg (by simp[h1])]
   exact hh
  refine Calls.mono ?_ hP
  clear hP h1 hnn T N V hxz hs R3 hin hv hi hz h
  go_enter Tryz.func90,Tryz.ntmps90
  go_wp2_with fail
  obtain⟨c0,c1,f0,f1⟩:=ST.out.rd.two
  generalize w.alloc _=W at *
  go_region_held3 (fun w'=>w'.cell? ⟨b,0,none⟩=some (.string s)/\w'.cell? ⟨b,1,none⟩=some (.int .i64 (i:Nat))) (simp[go_sem, *]) (first|(go_at_call 114;refine Calls.mono (R1.out _) ?_;rintro r w1 ⟨rfl,b1⟩;have S1:=hid2 (ST.out.next (below_on (Below.refl _ _).drew b1 (Nat.le_refl _)));obtain⟨m0,m1,_,_⟩:=S1.out.rd.two;obtain⟨p0,p1,p2,p3,g0,g1,g2,g3⟩:=S1.out.rb.four;clear b1))
  go_wp2_with fail
  refine bodyPost_ret (v:=.tuple #[noV,.int .i64 0]) (by simp[results,Tryz.results90,go_sem, *];rfl) rfl ⟨rfl,?_⟩
  exact(S1.out.set _ _ _ _).stay
 ·have own:decide (cls s 1 i≠i)=true:=by simp[h1]
  rw[own]
  replace hnn:=hnn h1
  have hne:(((cls s 1 i:Nat):Int)==(i:Int))=false:=beq_eq_false_iff_ne.2 (by omega)
  obtain⟨tr,HWd⟩:∃ tr,Hid (tr=wordT s i):=⟨_,rfl⟩
  rw[<-HWd.out]
  unfold wordT at HWd
  generalize hx:s.extract i (cls s 3 i)=x at *
  generalize cls s 3 i=e at *
  generalize cls s 1 i=e1 at *
  generalize hrs:resv x.data.toList=rv at *
  generalize (seg s (fun r=>isC (r:Int) 3) i).length=cn at *
  clear hx hrs own h1 hv
  cases rv with
  | true=>
    have hP:∀ r w',r=Ending.returned (.tuple #[tkV ⟨6,x,0,i⟩,.int .i64 0])/\Moved w b s e w'->CutPost w b s i true tr r w':=fun r w' hh=>by
     unfold CutPost
     rw[HWd.out]
     exact hh
    refine Calls.mono ?_ hP
    clear hP HWd N hnn
    go_enter Tryz.func90,Tryz.ntmps90
    go_wp2_with fail
    obtain⟨c0,c1,f0,f1⟩:=ST.out.rd.two
    generalize w.alloc _=W at *
    go_region_held3 (fun w'=>w'.cell? ⟨b,0,none⟩=some (.string s)/\w'.cell? ⟨b,1,none⟩=some (.int .i64 (i:Nat))) (simp[go_sem, *]) (first|(go_at_call 114;refine Calls.mono (R1.out _) ?_;rintro r w1 ⟨rfl,b1⟩;have S1:=hid2 (ST.out.next (below_on (Below.refl _ _).drew b1 (Nat.le_refl _)));obtain⟨m0,m1,_,_⟩:=S1.out.rd.two;obtain⟨m2,m3,m4,m5,m6,m7,m8,m9⟩:=S1.out.rb.four;clear b1))
    clear c0 c1 f0 f1
    go_wp2_with fail
    go_region_held3 (fun w'=>w'.cell? ⟨b,0,none⟩=some (.string s)/\w'.cell? ⟨b,1,none⟩=some (.int .i64 (i:Nat))) (simp[go_sem, *]) (first|(go_at_call 114;refine Calls.mono (R3.out _) ?_;rintro r w2 ⟨rfl,b1⟩;have S2:=hid2 (S1.out.next (below_on (Below.refl _ _).drew b1 (Nat.le_refl _)));obtain⟨n0,n1,_,_⟩:=S2.out.rd.two;obtain⟨n2,n3,n4,n5,n6,n7,n8,n9⟩:=S2.out.rb.four;clear b1))
    clear m0 m1 m2 m3 m4 m5 m6 m7 m8 m9
    go_wp2_with fail
    go_quiet (fail)
    have S3:=hid2 (S2.out.next (drewN_b2 w2 nq))
    generalize w2.drewN nq=W3 at *
    clear n0 n1 n2 n3 n4 n5 n6 n7 n8 n9
    go_wp2_with fail
    refine Calls.mono (V.out _) ?_
    rintro r w4 ⟨rfl,rfl⟩
    go_wp2_with fail
    refine Calls.mono (T.out 6 _ S3.out.rd) ?_
    rintro r w5 ⟨rfl,M5⟩
    obtain⟨bx,fin⟩:=S3.out.took M5
    obtain⟨p0,p1,p2,p3,g0,g1,g2,g3⟩:=bx.four
    have bl:=bx.lt
    have FIN:=hid2 fin
    clear bx fin M5
    unfold tkv
    go_wp2_with fail
    refine bodyPost_ret (v:=.tuple #[tkV ⟨6,x,0,i⟩,.int .i64 0]) (by simp[results,Tryz.results90,go_sem, *];rfl) rfl ⟨rfl,?_⟩
    exact FIN.out _ _ _ _
  | false=>
    by_cases hcn:cn<=32
    ·have hP:∀ r w',r=Ending.returned (.tuple #[tkV ⟨1,x,0,i⟩,.int .i64 0])/\Moved w b s e w'->CutPost w b s i true tr r w':=fun r w' hh=>by
      unfold CutPost
      rw[HWd.out]
      simp only[if_pos hcn]
      exact hh
     refine Calls.mono ?_ hP
     have hnt:isN x=true:=by rw[hnn];simp[hcn]
     rw[hnt] at N
     clear hP HWd hnn hnt hcn
     go_enter Tryz.func90,Tryz.ntmps90
     go_wp2_with fail
     obtain⟨c0,c1,f0,f1⟩:=ST.out.rd.two
     generalize w.alloc _=W at *
     go_region_held3 (fun w'=>w'.cell? ⟨b,0,none⟩=some (.string s)/\w'.cell? ⟨b,1,none⟩=some (.int .i64 (i:Nat))) (simp[go_sem, *]) (first|(go_at_call 114;refine Calls.mono (R1.out _) ?_;rintro r w1 ⟨rfl,b1⟩;have S1:=hid2 (ST.out.next (below_on (Below.refl _ _).drew b1 (Nat.le_refl _)));obtain⟨m0,m1,_,_⟩:=S1.out.rd.two;obtain⟨m2,m3,m4,m5,m6,m7,m8,m9⟩:=S1.out.rb.four;clear b1))
     clear c0 c1 f0 f1
     go_wp2_with fail
     go_region_held3 (fun w'=>w'.cell? ⟨b,0,none⟩=some (.string s)/\w'.cell? ⟨b,1,none⟩=some (.int .i64 (i:Nat))) (simp[go_sem, *]) (first|(go_at_call 114;refine Calls.mono (R3.out _) ?_;rintro r w2 ⟨rfl,b1⟩;have S2:=hid2 (S1.out.next (below_on (Below.refl _ _).drew b1 (Nat.le_refl _)));obtain⟨n0,n1,_,_⟩:=S2.out.rd.two;obtain⟨n2,n3,n4,n5,n6,n7,n8,n9⟩:=S2.out.rb.four;clear b1))
     clear m0 m1 m2 m3 m4 m5 m6 m7 m8 m9
     go_wp2_with fail
     go_quiet (fail)
     have S3:=hid2 (S2.out.next (drewN_b2 w2 nq))
     generalize w2.drewN nq=W3 at *
     clear n0 n1 n2 n3 n4 n5 n6 n7 n8 n9
     go_wp2_with fail
     refine Calls.mono (V.out _) ?_
     rintro r w4 ⟨rfl,rfl⟩
     go_wp2_with fail
     refine Calls.mono (N.out _) ?_
     rintro r w4 ⟨rfl,b4⟩
     have S4:=hid2 (S3.out.next b4)
     clear b4 S3
     go_wp2_with fail
     refine Calls.mono (T.out 1 _ S4.out.rd) ?_
     rintro r w5 ⟨rfl,M5⟩
     obtain⟨bx,fin⟩:=S4.out.took M5
     obtain⟨p0,p1,p2,p3,g0,g1,g2,g3⟩:=bx.four
     have bl:=bx.lt
     have FIN:=hid2 fin
     clear bx fin M5
     unfold tkv
     go_wp2_with fail
     refine bodyPost_ret (v:=.tuple #[tkV ⟨1,x,0,i⟩,.int .i64 0]) (by simp[results,Tryz.results90,go_sem, *];rfl) rfl ⟨rfl,?_⟩
     exact FIN.out _ _ _ _
    ·have hP:∀ r w',r=Ending.returned (.tuple #[noV,.int .i64 12])/\Moved w b s i w'->CutPost w b s i true tr r w':=fun r w' hh=>by
      unfold CutPost
      rw[HWd.out]
      simp only[if_neg hcn]
      exact hh
     refine Calls.mono ?_ hP
     have hnt:isN x=false:=by rw[hnn];simp[hcn]
     rw[hnt] at N
     clear hP HWd hnn hnt hcn
     go_enter Tryz.func90,Tryz.ntmps90
     go_wp2_with fail
     obtain⟨c0,c1,f0,f1⟩:=ST.out.rd.two
     generalize w.alloc _=W at *
     go_region_held3 (fun w'=>w'.cell? ⟨b,0,none⟩=some (.string s)/\w'.cell? ⟨b,1,none⟩=some (.int .i64 (i:Nat))) (simp[go_sem, *]) (first|(go_at_call 114;refine Calls.mono (R1.out _) ?_;rintro r w1 ⟨rfl,b1⟩;have S1:=hid2 (ST.out.next (below_on (Below.refl _ _).drew b1 (Nat.le_refl _)));obtain⟨m0,m1,_,_⟩:=S1.out.rd.two;obtain⟨m2,m3,m4,m5,m6,m7,m8,m9⟩:=S1.out.rb.four;clear b1))
     clear c0 c1 f0 f1
     go_wp2_with fail
     go_region_held3 (fun w'=>w'.cell? ⟨b,0,none⟩=some (.string s)/\w'.cell? ⟨b,1,none⟩=some (.int .i64 (i:Nat))) (simp[go_sem, *]) (first|(go_at_call 114;refine Calls.mono (R3.out _) ?_;rintro r w2 ⟨rfl,b1⟩;have S2:=hid2 (S1.out.next (below_on (Below.refl _ _).drew b1 (Nat.le_refl _)));obtain⟨n0,n1,_,_⟩:=S2.out.rd.two;obtain⟨n2,n3,n4,n5,n6,n7,n8,n9⟩:=S2.out.rb.four;clear b1))
     clear m0 m1 m2 m3 m4 m5 m6 m7 m8 m9
     go_wp2_with fail
     go_quiet (fail)
     have S3:=hid2 (S2.out.next (drewN_b2 w2 nq))
     generalize w2.drewN nq=W3 at *
     clear n0 n1 n2 n3 n4 n5 n6 n7 n8 n9
     go_wp2_with fail
     refine Calls.mono (V.out _) ?_
     rintro r w4 ⟨rfl,rfl⟩
     go_wp2_with fail
     refine Calls.mono (N.out _) ?_
     rintro r w4 ⟨rfl,b4⟩
     have S4:=hid2 (S3.out.next b4)
     clear b4 S3
     obtain⟨p0,p1,p2,p3,g0,g1,g2,g3⟩:=S4.out.rb.four
     have bl:=S4.out.rb.lt
     go_wp2_with fail
     refine bodyPost_ret (v:=.tuple #[noV,.int .i64 12]) (by simp[results,Tryz.results90,go_sem, *];rfl) rfl ⟨rfl,?_⟩
     exact(S4.out.set _ _ _ _).stay
theorem tail_list (s:ByteArray)(i:Nat):(s.extract i s.size).data.toList=s.data.toList.drop i:=by
 simp only[ByteArray.data_extract,Array.toList_extract,List.extract_eq_take_drop]
 rw[List.take_of_length_le]
 rw[List.length_drop,<-Lib.size_eq]
 omega
theorem tail_cons (s:ByteArray)(i:Nat)(hi:i<s.size):(s.extract i s.size).data.toList=s.get! i::(s.extract (i+1) s.size).data.toList:=by
 have hl:i<s.data.toList.length:=by rw[<-Lib.size_eq];exact hi
 rw[tail_list,tail_list,List.drop_eq_getElem_cons hl]
 congr 1
 have:=toL_get s i hi
 rw[List.getElem?_eq_getElem hl] at this
 exact Option.some.inj this
theorem prefix_yes (s:ByteArray)(i:Nat)(c:UInt8)(h:s.get! i=c)(hi:i<s.size)(w:World):Calls Tryz.prog 141 #[.string (s.extract i s.size),.string ⟨#[c]⟩] w fun e w'=>e=.returned (.tuple #[.string (s.extract (i+1) s.size),.bool true])/\w'=w:=by
 refine(Go.Proofs.Tryz.strings_CutPrefix _ ⟨#[c]⟩ w).mono ?_
 rintro e w' ⟨rfl,rfl⟩
 refine⟨?_,rfl⟩
 show Ending.returned (Value.tuple #[.string ⟨(Lib.trimPrefix (s.extract i s.size).data.toList [c]).toArray⟩,.bool (Lib.hasPrefix (s.extract i s.size).data.toList [c])])=_
 have hp:Lib.hasPrefix (s.extract i s.size).data.toList [c]=true:=by
  rw[tail_cons s i hi,h]
  simp[Lib.hasPrefix]
 have ht:Lib.trimPrefix (s.extract i s.size).data.toList [c]=(s.extract (i+1) s.size).data.toList:=by
  unfold Lib.trimPrefix
  rw[if_pos hp,tail_cons s i hi]
  rfl
 rw[hp,ht]
theorem prefix_not (s:ByteArray)(i:Nat)(c:UInt8)(h:s.get! i≠c)(hi:i<s.size)(w:World):Calls Tryz.prog 141 #[.string (s.extract i s.size),.string ⟨#[c]⟩] w fun e w'=>e=.returned (.tuple #[.string (s.extract i s.size),.bool false])/\w'=w:=by
 refine(Go.Proofs.Tryz.strings_CutPrefix _ ⟨#[c]⟩ w).mono ?_
 rintro e w' ⟨rfl,rfl⟩
 refine⟨?_,rfl⟩
 show Ending.returned (Value.tuple #[.string ⟨(Lib.trimPrefix (s.extract i s.size).data.toList [c]).toArray⟩,.bool (Lib.hasPrefix (s.extract i s.size).data.toList [c])])=_
 have hp:Lib.hasPrefix (s.extract i s.size).data.toList [c]=false:=by
  rw[tail_cons s i hi]
  have:(c==s.get! i)=false:=beq_eq_false_iff_ne.2 (fun e=>h e.symm)
  show (c==s.get! i&&List.isPrefixOf [] _)=false
  rw[this]
  rfl
 have ht:Lib.trimPrefix (s.extract i s.size).data.toList [c]=(s.extract i s.size).data.toList:=by
  unfold Lib.trimPrefix
  rw[if_neg (by rw[hp];decide)]
 rw[hp,ht]
theorem cut_cut (s:ByteArray)(a m:Nat)(h:a+m<=s.size):(s.extract a s.size).extract 0 m=s.extract a (a+m):=by
 apply ByteArray.ext
 apply Array.ext'
 simp only[ByteArray.data_extract,Array.toList_extract,List.extract_eq_take_drop]
 rw[List.drop_zero,List.take_take]
 congr 1
 have:=Lib.size_eq s
 omega
theorem cut_tail (s:ByteArray)(a m:Nat):(s.extract a s.size).extract m (s.extract a s.size).size=s.extract (a+m) s.size:=by
 apply ByteArray.ext
 apply Array.ext'
 rw[tail_list (s.extract a s.size) m,tail_list s a,tail_list s (a+m),List.drop_drop]
theorem cut_through {w W w2:World}{b i:Nat}{s:ByteArray}{own:Bool}{tr:TR}{r:Ending}(st:St w W b i s zs)(hh:CutPost W b s i own tr r w2):∃ (k:Int) (x:ByteArray) (n a e:Int),r=.returned (.tuple #[.agg #[.int .i64 k,.string x,.int .i64 n,.int .i64 a],.int .i64 e])/\Box w2 w.heap.size zs /\
 CutPost w b s i own tr (.returned (.tuple #[.agg #[.int .i64 k,.string x,.int .i64 n,.int .i64 a],.int .i64 e])) ((((w2.setCell ⟨w.heap.size,0,none⟩ (.int .i64 k)).setCell ⟨w.heap.size,1,none⟩ (.string x)).setCell ⟨w.heap.size,2,none⟩ (.int .i64 n)).setCell ⟨w.heap.size,3,none⟩ (.int .i64 a)):=by
 unfold CutPost at hh ⊢
 split at hh
 ·rename_i ho
  split at hh
  ·obtain⟨rfl,m⟩:=hh
   obtain⟨bx,fin⟩:=st.took m
   refine⟨_,_,_,_,_,rfl,bx,?_⟩
   rw[if_pos ho]
   exact⟨rfl,fin _ _ _ _⟩
  ·obtain⟨rfl,m⟩:=hh
   obtain⟨bx,fin⟩:=st.took m
   refine⟨_,_,_,_,_,rfl,bx,?_⟩
   rw[if_pos ho]
   exact⟨rfl,fin _ _ _ _⟩
 ·rename_i ho
  obtain⟨rfl,m⟩:=hh
  obtain⟨bx,fin⟩:=st.took m
  refine⟨_,_,_,_,_,rfl,bx,?_⟩
  rw[if_neg ho]
  exact⟨rfl,fin _ _ _ _⟩
set_option maxHeartbeats 4000000 in
theorem enclosed_c (b i:Nat)(s:ByteArray)(hi:i<s.size)(hz:s.size<=1048576)(hv:Vd s i)(k:Int)(nv:List UInt8)(c d:UInt8)(hc0:c≠0)(hc1:c.toNat<128)(hd0:d≠0)(hch:∀ x∈nv,x.toNat<128)(h2:2<=nv.length)(h4:nv.length<=4)(w:World)(h:Rdr w b s i):
 Calls Tryz.prog 121 #[.pointer (some ⟨b,0,none⟩),.int .i64 k,.string ⟨#[c]⟩,.string ⟨#[d]⟩,.string (ofL nv)] w (CutPost w b s i (decide (s.get! i=c)) (encT k nv d s i)):=by
 have ST:=hid2 (St.made h 47)
 have hlt:=h.lt
 have s0:=fun wx=>sl_l s i (by omega) wx
 by_cases h1:s.get! i=c
 ·have own:decide (s.get! i=c)=true:=decide_eq_true h1
  rw[own]
  have HP:=hid2 (fun wx=>prefix_yes s i c h1 hi wx)
  have hv1:=vd_low hv (by rw[h1];exact hc0) (by rw[h1];exact hc1)
  have HI:=fun wx=>indexAny_c s nv hch h2 h4 (i+1) hi hv1 hz wx
  have hin:=rn_in s (nin nv) (i+1) hi
  have hct:=count_cut (nin nv) (i+1) hi hv1
  obtain⟨tr,HWd⟩:∃ tr,Hid (tr=encT k nv d s i):=⟨_,rfl⟩
  rw[<-HWd.out]
  unfold encT at HWd
  unfold anyI at HI
  generalize hr:rn s (nin nv) (i+1)=rr at *
  clear hr
  by_cases hrs:rr<s.size
  ·rw[if_pos hrs] at HI
   obtain⟨m,rfl⟩:∃ m,rr=i+1+m:=⟨rr-(i+1),by omega⟩
   rw[show i+1+m-(i+1)=m by omega] at HI
   have s1:=fun wx=>sl_l (s.extract (i+1) s.size) m (by rw[size_tail];omega) wx
   rw[cut_tail s (i+1) m] at s1
   have s2:=fun wx=>sl_h (s.extract (i+1) s.size) m (by rw[size_tail];omega) wx
   rw[cut_cut s (i+1) m (by omega)] at s2
   have HQ:=fun wx=>prefix_at s (i+1+m) (by omega) d hd0 wx
   have hxz:(s.extract (i+1) (i+1+m)).size=m:=by rw[size_cut s _ _ (by omega)];omega
   have C:=fun wx=>Go.Proofs.Tryz.utf8_RuneCountInString (s.extract (i+1) (i+1+m)) wx (by omega)
   rw[hct] at C
   have T:=fun w' (hw:Rdr w' b s i)=>take_c b i (i+1+m+1) s (s.extract (i+1) (i+1+m)) k 0 (by omega) w' hw
   have hcl:(seg s (nin nv) (i+1)).length<=m:=by
    rw[<-hct,count_all]
    have:=rs_length0 (s.extract (i+1) (i+1+m))
    omega
   generalize hgx:s.extract (i+1) (i+1+m)=x at *
   generalize hgt:s.extract (i+1) s.size=rest at *
   generalize hgq:s.extract (i+1+m) s.size=rest2 at *
   generalize (seg s (nin nv) (i+1)).length=cn at *
   have he:((i+1+m+1:Nat):Int)=(i:Int)+1+(m:Int)+1:=by omega
   rw[he] at T
   have HT:=hid2 T
   have HHI:=hid2 HI
   have HC:=hid2 C
   clear T HI C hct hgx hgt hgq hxz hv hv1 own he hch h1
   cases hq:(s.get! (i+1+m)==d) with
   | false=>
     have ht:tr=.error 12:=by rw[HWd.out];exact if_neg (fun hh=>by rw[hh.1] at hq;simp at hq)
     refine Calls.mono ?_ (fun r w' (hh:r=Ending.returned (.tuple #[noV,.int .i64 12])/\Moved w b s i w')=>show CutPost w b s i true tr r w' from by unfold CutPost;rw[ht];exact hh)
     rw[hq] at HQ
     have HHQ:=hid2 HQ
     clear ht HWd hq HQ HC HT
     go_enter Tryz.func121,Tryz.ntmps121
     go_wp2_with fail
     obtain⟨c0,c1,f0,f1⟩:=ST.out.rd.two
     generalize w.alloc _=W at *
     go_quiet (exact Calls.quiet_of_same (HP.out _))
     have S1:=hid2 (ST.out.next (drewN_b2 W nq))
     generalize W.drewN nq=W1 at *
     clear c0 c1 f0 f1
     go_wp2_with fail
     refine Calls.mono (HHI.out _) ?_
     rintro r w2 ⟨rfl,b2⟩
     have S2:=hid2 (S1.out.next b2)
     clear b2
     go_wp2_with fail
     refine Calls.mono (HHQ.out _) ?_
     rintro r w3 ⟨rfl,rfl⟩
     obtain⟨p0,p1,p2,p3,g0,g1,g2,g3⟩:=S2.out.rb.four
     have bl:=S2.out.rb.lt
     go_wp2_with fail
     refine bodyPost_ret (v:=.tuple #[noV,.int .i64 12]) (by simp[results,Tryz.results121,go_sem, *];rfl) rfl ⟨rfl,?_⟩
     exact(S2.out.set _ _ _ _).stay
   | true=>
     rw[hq] at HQ
     have HHQ:=hid2 HQ
     have hqe:s.get! (i+1+m)=d:=by simpa using hq
     by_cases h64:cn<=64
     ·have h64':¬((64:Int)<(cn:Int)):=by omega
      have ht:tr=.ok (⟨k,x,0,i⟩,i+1+m+1):=by rw[HWd.out];exact if_pos ⟨hqe,h64⟩
      refine Calls.mono ?_ (fun r w' (hh:r=Ending.returned (.tuple #[tkV ⟨k,x,0,i⟩,.int .i64 0])/\Moved w b s (i+1+m+1) w')=>show CutPost w b s i true tr r w' from by unfold CutPost;rw[ht];exact hh)
      clear ht HWd hq HQ hqe h64
      go_enter Tryz.func121,Tryz.ntmps121
      go_wp2_with fail
      obtain⟨c0,c1,f0,f1⟩:=ST.out.rd.two
      generalize w.alloc _=W at *
      go_quiet (exact Calls.quiet_of_same (HP.out _))
      have S1:=hid2 (ST.out.next (drewN_b2 W nq))
      generalize W.drewN nq=W1 at *
      clear c0 c1 f0 f1
      go_wp2_with fail
      refine Calls.mono (HHI.out _) ?_
      rintro r w2 ⟨rfl,b2⟩
      have S2:=hid2 (S1.out.next b2)
      clear b2
      go_wp2_with fail
      refine Calls.mono (HHQ.out _) ?_
      rintro r w3 ⟨rfl,rfl⟩
      go_wp2_with fail
      refine Calls.mono (HC.out _) ?_
      rintro r w4 ⟨rfl,pos,rfl⟩
      have S4:Hid (St w (w3.iter x pos) b i s zs):=S2.out.next ((Below.refl _ _).alloc (Nat.le_refl _) _)
      generalize w3.iter x pos=w4 at *
      clear HC HHQ HHI HP
      obtain⟨n0,n1,_,_⟩:=S4.out.rd.two
      have nl:=S4.out.rd.lt
      go_wp2_with fail
      refine Calls.mono (HT.out _ S4.out.rd) ?_
      rintro r w5 ⟨rfl,M5⟩
      obtain⟨bx,fin⟩:=S4.out.took M5
      obtain⟨p0,p1,p2,p3,g0,g1,g2,g3⟩:=bx.four
      have bl:=bx.lt
      have FIN:=hid2 fin
      clear bx fin M5
      unfold tkv
      go_wp2_with fail
      refine bodyPost_ret (v:=.tuple #[tkV ⟨k,x,0,i⟩,.int .i64 0]) (by simp[results,Tryz.results121,go_sem, *];rfl) rfl ⟨rfl,?_⟩
      exact FIN.out _ _ _ _
     ·have h64':(64:Int)<(cn:Int):=by omega
      have ht:tr=.error 12:=by rw[HWd.out];exact if_neg (fun hh=>h64 hh.2)
      refine Calls.mono ?_ (fun r w' (hh:r=Ending.returned (.tuple #[noV,.int .i64 12])/\Moved w b s i w')=>show CutPost w b s i true tr r w' from by unfold CutPost;rw[ht];exact hh)
      clear ht HWd hq HQ hqe h64 HT
      go_enter Tryz.func121,Tryz.ntmps121
      go_wp2_with fail
      obtain⟨c0,c1,f0,f1⟩:=ST.out.rd.two
      generalize w.alloc _=W at *
      go_quiet (exact Calls.quiet_of_same (HP.out _))
      have S1:=hid2 (ST.out.next (drewN_b2 W nq))
      generalize W.drewN nq=W1 at *
      clear c0 c1 f0 f1
      go_wp2_with fail
      refine Calls.mono (HHI.out _) ?_
      rintro r w2 ⟨rfl,b2⟩
      have S2:=hid2 (S1.out.next b2)
      clear b2
      go_wp2_with fail
      refine Calls.mono (HHQ.out _) ?_
      rintro r w3 ⟨rfl,rfl⟩
      go_wp2_with fail
      refine Calls.mono (HC.out _) ?_
      rintro r w4 ⟨rfl,pos,rfl⟩
      have S4:Hid (St w (w3.iter x pos) b i s zs):=S2.out.next ((Below.refl _ _).alloc (Nat.le_refl _) _)
      generalize w3.iter x pos=w4 at *
      obtain⟨p0,p1,p2,p3,g0,g1,g2,g3⟩:=S4.out.rb.four
      have bl:=S4.out.rb.lt
      go_wp2_with fail
      refine bodyPost_ret (v:=.tuple #[noV,.int .i64 12]) (by simp[results,Tryz.results121,go_sem, *];rfl) rfl ⟨rfl,?_⟩
      exact(S4.out.set _ _ _ _).stay
  ·obtain rfl:rr=s.size:=by omega
   rw[if_neg hrs] at HI
   have ht:tr=.error 12:=by rw[HWd.out];exact if_neg (fun hh=>absurd (get_in (s:=s) (by rw[hh.1];exact hd0)) hrs)
   refine Calls.mono ?_ (fun r w' (hh:r=Ending.returned (.tuple #[noV,.int .i64 12])/\Moved w b s i w')=>show CutPost w b s i true tr r w' from by unfold CutPost;rw[ht];exact hh)
   generalize s.extract (i+1) s.size=rest at *
   have HHI:=hid2 HI
   clear ht HWd HI hct hrs hv hv1 own hch h1
   go_enter Tryz.func121,Tryz.ntmps121
   go_wp2_with fail
   obtain⟨c0,c1,f0,f1⟩:=ST.out.rd.two
   generalize w.alloc _=W at *
   go_quiet (exact Calls.quiet_of_same (HP.out _))
   have S1:=hid2 (ST.out.next (drewN_b2 W nq))
   generalize W.drewN nq=W1 at *
   clear c0 c1 f0 f1
   go_wp2_with fail
   refine Calls.mono (HHI.out _) ?_
   rintro r w2 ⟨rfl,b2⟩
   have S2:=hid2 (S1.out.next b2)
   clear b2
   obtain⟨p0,p1,p2,p3,g0,g1,g2,g3⟩:=S2.out.rb.four
   have bl:=S2.out.rb.lt
   go_wp2_with fail
   refine bodyPost_ret (v:=.tuple #[noV,.int .i64 12]) (by simp[results,Tryz.results121,go_sem, *];rfl) rfl ⟨rfl,?_⟩
   exact(S2.out.set _ _ _ _).stay
 ·have hP:∀ r w',r=Ending.returned (.tuple #[noV,.int .i64 0])/\Moved w b s i w'->CutPost w b s i (decide (s.get! i=c)) (encT k nv d s i) r w':=fun r w' hh=>by
   unfold CutPost
   rw[if_neg (by simp[h1])]
   exact hh
  refine Calls.mono ?_ hP
  have HP:=hid2 (fun wx=>prefix_not s i c h1 hi wx)
  generalize s.extract i s.size=rest at *
  clear hP h1 h hv hch hc0 hc1 hd0 h2 h4
  go_enter Tryz.func121,Tryz.ntmps121
  go_wp2_with fail
  obtain⟨c0,c1,f0,f1⟩:=ST.out.rd.two
  generalize w.alloc _=W at *
  go_quiet (exact Calls.quiet_of_same (HP.out _))
  have S1:=hid2 (ST.out.next (drewN_b2 W nq))
  generalize W.drewN nq=W1 at *
  clear c0 c1 f0 f1
  obtain⟨p0,p1,p2,p3,g0,g1,g2,g3⟩:=S1.out.rb.four
  have bl:=S1.out.rb.lt
  go_wp2_with fail
  refine bodyPost_ret (v:=.tuple #[noV,.int .i64 0]) (by simp[results,Tryz.results121,go_sem, *];rfl) rfl ⟨rfl,?_⟩
  exact(S1.out.set _ _ _ _).stay
theorem quoted_c (b i:Nat)(s:ByteArray)(hi:i<s.size)(hz:s.size<=1048576)(hv:Vd s i)(w:World)(h:Rdr w b s i):
 Calls Tryz.prog 92 #[.pointer (some ⟨b,0,none⟩)] w (CutPost w b s i (decide (s.get! i=34)) (encT 4 [34,10] 34 s i)):=by
 have ST:=hid2 (St.made h 47)
 have hlt:=h.lt
 have E:=hid2 (fun w' (hw:Rdr w' b s i)=>enclosed_c b i s hi hz hv 4 [34,10] 34 34 (by decide) (by decide) (by decide) (by decide) (by decide) (by decide) w' hw)
 have hQ:=hid2 (fun (W w2:World) (st:St w W b i s zs) (r:Ending) (hh:CutPost W b s i (decide (s.get! i=34)) (encT 4 [34,10] 34 s i) r w2)=>cut_through st hh)
 clear h hv
 generalize decide (s.get! i=34)=own at *
 generalize encT 4 [34,10] 34 s i=tr at *
 go_enter Tryz.func92,Tryz.ntmps92
 go_wp2_with fail
 generalize w.alloc _=W at *
 refine Calls.mono (E.out _ ST.out.rd) ?_
 intro r w2 hh
 obtain⟨k,x,n,a,e,rfl,bx,hp⟩:=hQ.out _ _ ST.out _ hh
 obtain⟨p0,p1,p2,p3,g0,g1,g2,g3⟩:=bx.four
 have bl:=bx.lt
 have HP:=hid2 hp
 clear hh hp bx hQ E
 go_wp2_with fail
 refine bodyPost_ret (v:=.tuple #[.agg #[.int .i64 k,.string x,.int .i64 n,.int .i64 a],.int .i64 e]) (by simp[results,Tryz.results92,go_sem, *]) rfl ?_
 exact HP.out
theorem bracket_c (b i:Nat)(s:ByteArray)(hi:i<s.size)(hz:s.size<=1048576)(hv:Vd s i)(w:World)(h:Rdr w b s i):
 Calls Tryz.prog 93 #[.pointer (some ⟨b,0,none⟩)] w (CutPost w b s i (decide (s.get! i=91)) (encT 8 [91,93,34,10] 93 s i)):=by
 have ST:=hid2 (St.made h 47)
 have hlt:=h.lt
 have E:=hid2 (fun w' (hw:Rdr w' b s i)=>enclosed_c b i s hi hz hv 8 [91,93,34,10] 91 93 (by decide) (by decide) (by decide) (by decide) (by decide) (by decide) w' hw)
 have hQ:=hid2 (fun (W w2:World) (st:St w W b i s zs) (r:Ending) (hh:CutPost W b s i (decide (s.get! i=91)) (encT 8 [91,93,34,10] 93 s i) r w2)=>cut_through st hh)
 clear h hv
 generalize decide (s.get! i=91)=own at *
 generalize encT 8 [91,93,34,10] 93 s i=tr at *
 go_enter Tryz.func93,Tryz.ntmps93
 go_wp2_with fail
 generalize w.alloc _=W at *
 refine Calls.mono (E.out _ ST.out.rd) ?_
 intro r w2 hh
 obtain⟨k,x,n,a,e,rfl,bx,hp⟩:=hQ.out _ _ ST.out _ hh
 obtain⟨p0,p1,p2,p3,g0,g1,g2,g3⟩:=bx.four
 have bl:=bx.lt
 have HP:=hid2 hp
 clear hh hp bx hQ E
 go_wp2_with fail
 refine bodyPost_ret (v:=.tuple #[.agg #[.int .i64 k,.string x,.int .i64 n,.int .i64 a],.int .i64 e]) (by simp[results,Tryz.results93,go_sem, *]) rfl ?_
 exact HP.out
theorem cut_two (s:ByteArray)(i:Nat)(h:i+2<=s.size):(s.extract i (i+2)).data.toList=[s.get! i,s.get! (i+1)]:=by
 have hz:=size_cut s i (i+2) h
 have e0:=toL_get (s.extract i (i+2)) 0 (by omega)
 have e1:=toL_get (s.extract i (i+2)) 1 (by omega)
 rw[gd_cut s i (i+2) 0 h (by omega)] at e0
 rw[gd_cut s i (i+2) 1 h (by omega)] at e1
 have hl:(s.extract i (i+2)).data.toList.length=2:=by rw[<-Lib.size_eq];omega
 match hm:(s.extract i (i+2)).data.toList,hl with
 | [a,b],_=>
   rw[hm] at e0 e1
   simp at e0 e1
   rw[e0,e1]
theorem cut_one (s:ByteArray)(i:Nat)(h:i+1<=s.size):(s.extract i (i+1)).data.toList=[s.get! i]:=by
 have hz:=size_cut s i (i+1) h
 have e0:=toL_get (s.extract i (i+1)) 0 (by omega)
 rw[gd_cut s i (i+1) 0 h (by omega)] at e0
 have hl:(s.extract i (i+1)).data.toList.length=1:=by rw[<-Lib.size_eq];omega
 match hm:(s.extract i (i+1)).data.toList,hl with
 | [a],_=>
   rw[hm] at e0
   simp at e0
   rw[e0]
theorem sgn_two (a b:UInt8):sgn [a,b]=two a b:=by
 unfold sgn signs two
 simp only[List.contains_cons,List.contains_nil,Bool.or_false]
 have h1:∀ (x y:UInt8),([a,b]==[x,y])=(a==x&&b==y):=fun x y=>by rw[Bool.eq_iff_iff];simp
 have h2:∀ (x:UInt8),([a,b]==[x])=false:=fun x=>by rw[beq_eq_false_iff_ne];simp
 simp only[h1,h2,Bool.or_false]
 cases (a==46&&b==46)<;>cases (a==60)<;>cases (a==62)<;>cases (b==61)<;>rfl
theorem sgn_one (a:UInt8):sgn [a]=one a:=by
 unfold sgn signs one
 simp only[List.contains_cons,List.contains_nil,Bool.or_false]
 have h1:∀ (x:UInt8),([a]==[x])=(a==x):=fun x=>by rw[Bool.eq_iff_iff];simp
 have h2:∀ (x y:UInt8),([a]==[x,y])=false:=fun x y=>by rw[beq_eq_false_iff_ne];simp
 simp only[h1,h2,Bool.false_or]
theorem two_in {s:ByteArray}{i:Nat}(h:two (s.get! i) (s.get! (i+1))=true):i+2<=s.size:=by
 unfold two at h
 simp only[Bool.or_eq_true,Bool.and_eq_true,beq_iff_eq] at h
 have:s.get! (i+1)≠0:=by rcases h with ⟨_,h⟩ | ⟨_,h⟩<;>(rw[h];decide)
 exact get_in this
set_option maxHeartbeats 8000000 in
theorem sign_c (b i:Nat)(s:ByteArray)(hi:i<s.size)(hz:s.size<=1048576)(w:World)(h:Rdr w b s i):
 Calls Tryz.prog 94 #[.pointer (some ⟨b,0,none⟩)] w (CutPost w b s i (two (s.get! i) (s.get! (i+1))||one (s.get! i)) (sigT s i)):=by
 have ST:=hid2 (St.made h 47)
 have hlt:=h.lt
 have hN2:Hid (two (s.get! i) (s.get! (i+1))=true->i+2<=s.size):=two_in
 have HG1:Hid (∀ wx,Calls Tryz.prog 122 #[.string (s.extract i (i+1))] wx fun e w'=>e=.returned (.bool (one (s.get! i)))/\w'=wx):=fun wx=>by
  have:=isSign_c (s.extract i (i+1)) wx
  rw[cut_one s i hi,sgn_one] at this
  exact this.mono fun _ _ k=>⟨k.1,k.2.symm⟩
 have HG2:Hid (i+2<=s.size->∀ wx,Calls Tryz.prog 122 #[.string (s.extract i (i+2))] wx fun e w'=>e=.returned (.bool (two (s.get! i) (s.get! (i+1))))/\w'=wx):=fun hi2 wx=>by
  have:=isSign_c (s.extract i (i+2)) wx
  rw[cut_two s i hi2,sgn_two] at this
  exact this.mono fun _ _ k=>⟨k.1,k.2.symm⟩
 have T1:Hid (∀ w',Rdr w' b s i->Calls Tryz.prog 116 #[.pointer (some ⟨b,0,none⟩),.int .i64 ((i:Int)+1),.int .i64 5,.string (s.extract i (i+1)),.int .i64 0] w' fun r w2=>r=.returned (tkv 5 (s.extract i (i+1)) 0 i)/\Moved w' b s (i+1) w2):=fun w' hw=>by
  have:=take_c b i (i+1) s (s.extract i (i+1)) 5 0 (by rw[size_cut s i _ hi];omega) w' hw
  rw[show ((i+1:Nat):Int)=(i:Int)+1 by omega] at this
  exact this
 have T2:Hid (i+2<=s.size->∀ w',Rdr w' b s i->Calls Tryz.prog 116 #[.pointer (some ⟨b,0,none⟩),.int .i64 ((i:Int)+2),.int .i64 5,.string (s.extract i (i+2)),.int .i64 0] w' fun r w2=>r=.returned (tkv 5 (s.extract i (i+2)) 0 i)/\Moved w' b s (i+2) w2):=fun hi2 w' hw=>by
  have:=take_c b i (i+2) s (s.extract i (i+2)) 5 0 (by rw[size_cut s i _ hi2];omega) w' hw
  rw[show ((i+2:Nat):Int)=(i:Int)+2 by omega] at this
  exact this
 have hs1:=fun wx=>sl_lh s i (i+1) (by omega) hi wx
 have hs2:Hid (i+2<=s.size->∀ wx,(Instr.slice 9 (.string s) (some (.int .i64 (i:Nat))) (some (.int .i64 ((i:Int)+2))) none).run Tryz.prog wx=.ok (.string (s.extract i (i+2))) wx):=fun hi2 wx=>by
  have:=sl_lh s i (i+2) (by omega) hi2 wx
  rw[show ((i+2:Nat):Int)=(i:Int)+2 by omega] at this
  exact this
 rw[show ((i+1:Nat):Int)=(i:Int)+1 by omega] at hs1
 have HO2:Hid (two (s.get! i) (s.get! (i+1))=true->∀ r w',r=Ending.returned (.tuple #[tkV ⟨5,s.extract i (i+2),0,i⟩,.int .i64 0])/\Moved w b s (i+2) w'->CutPost w b s i (two (s.get! i) (s.get! (i+1))||one (s.get! i)) (sigT s i) r w'):=fun h2 r w' hh=>by
  unfold CutPost sigT
  rw[h2]
  exact hh
 have HO1:Hid (two (s.get! i) (s.get! (i+1))=false->one (s.get! i)=true->∀ r w',r=Ending.returned (.tuple #[tkV ⟨5,s.extract i (i+1),0,i⟩,.int .i64 0])/\Moved w b s (i+1) w'->CutPost w b s i (two (s.get! i) (s.get! (i+1))||one (s.get! i)) (sigT s i) r w'):=fun h2 h1 r w' hh=>by
  unfold CutPost sigT
  rw[h2,h1]
  exact hh
 have HO0:Hid (two (s.get! i) (s.get! (i+1))=false->one (s.get! i)=false->∀ r w',r=Ending.returned (.tuple #[noV,.int .i64 0])/\Moved w b s i w'->CutPost w b s i (two (s.get! i) (s.get! (i+1))||one (s.get! i)) (sigT s i) r w'):=fun h2 h1 r w' hh=>by
  unfold CutPost
  rw[h2,h1]
  exact hh
 generalize CutPost w b s i (two (s.get! i) (s.get! (i+1))||one (s.get! i)) (sigT s i)=Post at *
 generalize two (s.get! i) (s.get! (i+1))=t2 at *
 generalize one (s.get! i)=t1 at *
 generalize s.extract i (i+2)=x2 at *
 generalize s.extract i (i+1)=x1 at *
 have hw2:IntKind.i64.wrap ((i:Int)+2)=(i:Int)+2:=by rw[IntKind.wrap_i64];omega
 have hw1:IntKind.i64.wrap ((i:Int)+1)=(i:Int)+1:=by rw[IntKind.wrap_i64];omega
 clear h
 go_enter Tryz.func94,Tryz.ntmps94
 go_wp2_with fail
 have hm:Hid (St w ((w.alloc (.cells zs.toArray 47)).alloc (.cells #[.int .i64 2,.int .i64 1] 3)) b i s zs/\Box ((w.alloc (.cells zs.toArray 47)).alloc (.cells #[.int .i64 2,.int .i64 1] 3)) (w.heap.size+1) [.int .i64 2,.int .i64 1]):=
  ⟨ST.out.next ((Below.refl _ _).alloc (Nat.le_refl _) _),by simpa using Box.new (w.alloc (.cells zs.toArray 47)) [.int .i64 2,.int .i64 1] 3⟩
 go_loopw [9] (fun s9 wr=>∃ j:Nat,s9=.int .i64 (j:Nat)/\j<=2/\Hid (St w wr b i s zs/\Box wr (w.heap.size+1) [.int .i64 2,.int .i64 1])/\Hid (1<=j->t2=false)/\Hid (2<=j->t1=false)) (fun s9 _=>2-(RowKit.intOf s9).toNat)
 case atStart=>exact⟨0,rfl,by omega,hm,fun h=>by omega,fun h=>by omega⟩
 case round=>
  obtain⟨j,rfl,hj,HM,H2,H1⟩:=hrel
  obtain⟨c0,c1,f0,f1⟩:=HM.out.1.rd.two
  obtain⟨d0,d1,_,_⟩:=HM.out.2.two
  have bl0:=HM.out.1.rd.lt
  have bl1:=HM.out.2.lt
  clear hm ST
  rcases(show j=0\/j=1\/j=2 by omega) with rfl | rfl | rfl
  ·by_cases hi2:i+2<=s.size
   ·have hs2:=hs2.out hi2
    have HT2:=hid2 (T2.out hi2)
    have HG:=hid2 (HG2.out hi2)
    have hle:(i:Int)+2<=(s.size:Int):=by omega
    have hle2:decide ((i:Int)+2<=(s.size:Int))=true:=decide_eq_true hle
    cases t2 with
    | true=>
      go_wp2_with fail
      go_quiet (exact Calls.quiet_of_same (HG.out _))
      have S3:=hid2 (HM.out.1.next (drewN_b2 wr nq))
      generalize wr.drewN nq=W3 at *
      clear c0 c1 f0 f1 d0 d1
      obtain⟨c0,c1,f0,f1⟩:=S3.out.rd.two
      go_wp2_with fail
      go_region_with (first|(go_at_call 116;refine Calls.mono (HT2.out _ (S3.out.rd.next (Below.refl _ _).drew)) ?_;rintro r w3 ⟨rfl,M3⟩;obtain⟨bx,fin⟩:=(S3.out.next (Below.refl _ _).drew).took M3;obtain⟨p0,p1,p2,p3,g0,g1,g2,g3⟩:=bx.four;have bl:=bx.lt;have FIN:=hid2 fin;unfold tkv;clear bx fin M3))
      all_goals go_wp2_with fail
      all_goals refine bodyPost_ret (v:=.tuple #[tkV ⟨5,x2,0,i⟩,.int .i64 0]) (by simp[results,Tryz.results94,go_sem, *];rfl) rfl ?_
      all_goals exact HO2.out (by first | rfl | trivial) _ _ ⟨rfl,FIN.out _ _ _ _⟩
    | false=>
      go_wp2_with fail
      go_quiet (exact Calls.quiet_of_same (HG.out _))
      have S3:=hid2 (HM.out.1.next (drewN_b2 wr nq))
      have B3:=hid2 (HM.out.2.next (drewN_b2 wr nq))
      generalize wr.drewN nq=W3 at *
      go_wp2_with fail
      go_roundw
      case rel=>exact⟨1,rfl,by omega,⟨S3.out,B3.out⟩,fun _=>by first | rfl | trivial,fun h=>by omega⟩
      case measure=>simp[RowKit.intOf]
   ·have hle:¬((i:Int)+2<=(s.size:Int)):=by omega
    have hle2:decide ((i:Int)+2<=(s.size:Int))=false:=decide_eq_false hle
    have ht2:t2=false:=by
     cases t2 with
     | false=>rfl
     | true=>exact absurd (hN2.out rfl) hi2
    go_wp2_with fail
    go_quiet (fail)
    have S3:=hid2 (HM.out.1.next (drewN_b2 wr nq))
    have B3:=hid2 (HM.out.2.next (drewN_b2 wr nq))
    generalize wr.drewN nq=W3 at *
    go_wp2_with fail
    go_roundw
    case rel=>exact⟨1,rfl,by omega,⟨S3.out,B3.out⟩,fun _=>ht2,fun h=>by omega⟩
    case measure=>simp[RowKit.intOf]
  ·have ht2:=H2.out (Nat.le_refl _)
   have hle:(i:Int)+1<=(s.size:Int):=by omega
   have hle2:decide ((i:Int)+1<=(s.size:Int))=true:=decide_eq_true hle
   have HG:=HG1
   cases t1 with
   | true=>
     go_wp2_with fail
     go_quiet (exact Calls.quiet_of_same (HG.out _))
     have S3:=hid2 (HM.out.1.next (drewN_b2 wr nq))
     generalize wr.drewN nq=W3 at *
     clear c0 c1 f0 f1 d0 d1
     obtain⟨c0,c1,f0,f1⟩:=S3.out.rd.two
     go_wp2_with fail
     go_region_with (first|(go_at_call 116;refine Calls.mono (T1.out _ (S3.out.rd.next (Below.refl _ _).drew)) ?_;rintro r w3 ⟨rfl,M3⟩;obtain⟨bx,fin⟩:=(S3.out.next (Below.refl _ _).drew).took M3;obtain⟨p0,p1,p2,p3,g0,g1,g2,g3⟩:=bx.four;have bl:=bx.lt;have FIN:=hid2 fin;unfold tkv;clear bx fin M3))
     all_goals go_wp2_with fail
     all_goals refine bodyPost_ret (v:=.tuple #[tkV ⟨5,x1,0,i⟩,.int .i64 0]) (by simp[results,Tryz.results94,go_sem, *];rfl) rfl ?_
     all_goals exact HO1.out ht2 (by first | rfl | trivial) _ _ ⟨rfl,FIN.out _ _ _ _⟩
   | false=>
     go_wp2_with fail
     go_quiet (exact Calls.quiet_of_same (HG.out _))
     have S3:=hid2 (HM.out.1.next (drewN_b2 wr nq))
     have B3:=hid2 (HM.out.2.next (drewN_b2 wr nq))
     generalize wr.drewN nq=W3 at *
     go_wp2_with fail
     go_roundw
     case rel=>exact⟨2,rfl,by omega,⟨S3.out,B3.out⟩,fun _=>ht2,fun _=>by first | rfl | trivial⟩
     case measure=>simp[RowKit.intOf]
  ·have ht2:=H2.out (by omega)
   have ht1:=H1.out (Nat.le_refl _)
   obtain⟨p0,p1,p2,p3,g0,g1,g2,g3⟩:=HM.out.1.rb.four
   have bl:=HM.out.1.rb.lt
   go_wp2_with fail
   refine bodyPost_ret (v:=.tuple #[noV,.int .i64 0]) (by simp[results,Tryz.results94,go_sem, *];rfl) rfl ?_
   exact HO0.out ht2 ht1 _ _ ⟨rfl,(HM.out.1.set _ _ _ _).stay⟩
end Go.Proofs.YtecdfnpbcabdnaaGreatDoor

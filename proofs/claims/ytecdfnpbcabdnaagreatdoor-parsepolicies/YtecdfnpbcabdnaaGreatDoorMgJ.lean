import Derived.Test.YtecdfnpbcabdnaaGreatDoorMgU
import Derived.Test.YtecdfnpbcabdnaaGreatDoorMgV
import Derived.Deep.RegionHeld3
import Derived.WalkLawsBesides
import Derived.RegionDies
import Derived.Deep.RegionHeld2
import Derived.Test.YtecdfnpbcabdnaaGreatDoorMiG
import Derived.Maps.AppendAt
import Derived.Deep.RegionLaw
section
namespace Go.Proofs.YtecdfnpbcabdnaaGreatDoor
open Go.RowKit
def SitQ (Q:Nat->Prop)(z:Nat)(w:World):Tm->Value->Prop
 | ⟨k,s,n,m,a,ps⟩,v=>In64 k/\In64 n/\In64 m/\In64 a/\s.size<=z/\∃ ad cap,v=.slice ad ps.length cap/\ps.length<=cap/\cap<=9223372036854775807 /\
     (ps.length=0\/∃ b off,ad=some ⟨b,off,none⟩/\b<w.heap.size/\Q b/\∀ i (h:i<ps.length),∃ u,Six w b (off+i*6) ps[i] u /\
       (have:SizeOf.sizeOf ps[i]<SizeOf.sizeOf ps:=List.sizeOf_lt_of_mem (List.getElem_mem h);SitQ Q z w ps[i] u))
def PAtQ (Q:Nat->Prop)(z:Nat)(w:World)(v:Value)(ps:List Tm):Prop:=∃ ad cap,v=.slice ad ps.length cap/\ps.length<=cap/\cap<=9223372036854775807 /\
 (ps.length=0\/∃ b off,ad=some ⟨b,off,none⟩/\b<w.heap.size/\Q b/\∀ i (h:i<ps.length),∃ u,Six w b (off+i*6) ps[i] u/\SitQ Q z w ps[i] u)
theorem sitq_iff {Q:Nat->Prop}{z:Nat}{w:World}{t:Tm}{v:Value}:SitQ Q z w t v↔Fit z t/\PAtQ Q z w v t.parts:=by
 cases t
 rw[SitQ]
 exact⟨fun ⟨a,b,c,d,e,f⟩=>⟨⟨a,b,c,d,e⟩,f⟩,fun ⟨⟨a,b,c,d,e⟩,f⟩=>⟨a,b,c,d,e,f⟩⟩
theorem SitQ.keep {Q Q':Nat->Prop}{z:Nat}{w w':World}(hs:w.heap.size<=w'.heap.size)(hk:∀ b,b<w.heap.size->Q b->Q' b/\∀ j,w'.cell? ⟨b,j,none⟩=w.cell? ⟨b,j,none⟩)(t:Tm):∀ v,SitQ Q z w t v->SitQ Q' z w' t v:=by
 induction t using Tm.ind with
 | h t ih=>
   intro v h
   rw[sitq_iff] at h ⊢
   obtain⟨hf,ad,cap,hv,hl,hc,hp⟩:=h
   refine⟨hf,ad,cap,hv,hl,hc,?_⟩
   rcases hp with hp | ⟨b,off,ha,hb,hq,hp⟩
   ·exact .inl hp
   ·refine .inr ⟨b,off,ha,by omega,(hk b hb hq).1,fun i hi=>?_⟩
    obtain⟨u,h6,hu⟩:=hp i hi
    exact⟨u,h6.keep (fun j=>(hk b hb hq).2 j),ih _ (List.getElem_mem hi) u hu⟩
theorem SitQ.sits {Q:Nat->Prop}{z:Nat}{w:World}(t:Tm):∀ v,SitQ Q z w t v->Sits z w t v:=by
 induction t using Tm.ind with
 | h t ih=>
   intro v h
   rw[sitq_iff] at h
   rw[sits_iff]
   obtain⟨hf,ad,cap,hv,hl,hc,hp⟩:=h
   refine⟨hf,ad,cap,hv,hl,hc,?_⟩
   rcases hp with hp | ⟨b,off,ha,hb,hq,hp⟩
   ·exact .inl hp
   ·refine .inr ⟨b,off,ha,by omega,fun i hi=>?_⟩
    obtain⟨u,h6,hu⟩:=hp i hi
    exact⟨u,h6,ih _ (List.getElem_mem hi) u hu⟩
theorem SitQ.weak {Q Q':Nat->Prop}{z:Nat}{w:World}{t:Tm}{v:Value}(h:SitQ Q z w t v)(hk:∀ b,b<w.heap.size->Q b->Q' b):SitQ Q' z w t v:=
 SitQ.keep (Nat.le_refl _) (fun b hb hq=>⟨hk b hb hq,fun _=>rfl⟩) t v h
theorem SitQ.parts {Q:Nat->Prop}{z:Nat}{w:World}{t:Tm}{v:Value}(h:SitQ Q z w t v):PAtQ Q z w v t.parts:=(sitq_iff.1 h).2
theorem PAtQ.shape {Q:Nat->Prop}{z:Nat}{w:World}{v:Value}{ps:List Tm}(h:PAtQ Q z w v ps):∃ ad cap,v=.slice ad ps.length cap/\ps.length<=cap/\cap<=9223372036854775807:=by
 obtain⟨ad,cap,hv,hl,hc,_⟩:=h
 exact⟨ad,cap,hv,hl,hc⟩
abbrev SitB (B:Nat)(z:Nat)(w:World)(t:Tm)(v:Value):Prop:=SitQ (fun b=>B<=b) z w t v
theorem SitB.turn {S:List Nat}{B z:Nat}{w w':World}{t:Tm}{v:Value}(h:SitB B z w t v)(k:Turn S w w')(hS:∀ i∈S,i<B):SitB B z w' t v:=
 SitQ.keep k.size (fun b hb hq=>⟨hq,fun j=>by
  have:=k.block b hb (fun hm=>by have:=hS b hm;omega)
  unfold World.cell?
  rw[this]⟩) t v h
theorem SitB.lower {B B' z:Nat}{w:World}{t:Tm}{v:Value}(h:SitB B z w t v)(hB:B'<=B):SitB B' z w t v:=h.weak (fun _ _ hq=>Nat.le_trans hB hq)
theorem sitb_leaf {Q:Nat->Prop}{z:Nat}{w:World}{t:Tm}(hf:Fit z t)(hp:t.parts=[]):SitQ Q z w t (.slice none 0 0):=by
 rw[sitq_iff]
 rw[hp]
 exact⟨hf,none,0,rfl,Nat.le_refl _,by decide,.inl rfl⟩
theorem SitQ.oneCell {Q:Nat->Prop}{z:Nat}{w:World}{t:Tm}{v:Value}(h:SitQ Q z w t v):v.oneCell'=true:=by
 obtain⟨a,c,rfl,-,-⟩:=h.parts.shape
 cases a<;>rfl
theorem sitb_one {B z:Nat}{w:World}{t x:Tm}{g:Nat}{u:Value}(hf:Fit z t)(hp:t.parts=[x])(hg:g<w.heap.size)(hB:B<=g)(h6:Six w g 0 x u)(hx:SitB B z w x u):SitB B z w t (.slice (some ⟨g,0,none⟩) 1 1):=by
 rw[SitB,sitq_iff,hp]
 refine⟨hf,_,1,rfl,Nat.le_refl _,by decide,.inr ⟨g,0,rfl,hg,hB,fun i hi=>?_⟩⟩
 have h0:i=0:=by simpa using hi
 subst h0
 exact⟨u,h6,hx⟩
end Go.Proofs.YtecdfnpbcabdnaaGreatDoor
end
section
namespace Go.Proofs.YtecdfnpbcabdnaaGreatDoor
open Go.RowKit Go.Lib
abbrev fltV (f:Flt):Value:=.agg #[.int .i64 (f.1:Nat),.int .i64 f.2]
abbrev fltE (f:Flt):PanicEntry:={v:=.iface 74 (fltV f),recovered:=false}
abbrev tkW (t:Tk):Value:=.agg #[.int .i64 t.kind,.string t.text,.int .i64 t.n,.int .i64 (t.at_:Nat)]
abbrev tkC (t:Tk):List Value:=[.int .i64 t.kind,.string t.text,.int .i64 t.n,.int .i64 (t.at_:Nat)]
def tkL (L:List Tk):List Value:=L.flatMap tkC
abbrev lvC:List Value:=[.func (.func 65) #[] #[],.func (.func 66) #[] #[],.func (.func 67) #[] #[],.func (.func 68) #[] #[],.func (.func 69) #[] #[]]
abbrev rdL (tb off n cap:Nat)(c:Int)(o lb:Nat):List Value:=[.slice (some ⟨tb,off,none⟩) n cap,.int .i64 c,.int .i64 (o:Nat),.slice (some ⟨lb,0,none⟩) 5 5]
theorem Box.six {w:World}{g:Nat}{v0 v1 v2 v3 v4 v5:Value}(h:Box w g [v0,v1,v2,v3,v4,v5]):w.cell? ⟨g,0,none⟩=some v0/\w.cell? ⟨g,1,none⟩=some v1/\w.cell? ⟨g,2,none⟩=some v2/\w.cell? ⟨g,3,none⟩=some v3/\w.cell? ⟨g,4,none⟩=some v4/\w.cell? ⟨g,5,none⟩=some v5/\w.frozen? ⟨g,0,none⟩=false/\w.frozen? ⟨g,1,none⟩=false/\w.frozen? ⟨g,2,none⟩=false/\w.frozen? ⟨g,3,none⟩=false/\w.frozen? ⟨g,4,none⟩=false/\w.frozen? ⟨g,5,none⟩=false:=
 ⟨h.cell 0 _ rfl,h.cell 1 _ rfl,h.cell 2 _ rfl,h.cell 3 _ rfl,h.cell 4 _ rfl,h.cell 5 _ rfl,h.free 0 (by simp),h.free 1 (by simp),h.free 2 (by simp),h.free 3 (by simp),h.free 4 (by simp),h.free 5 (by simp)⟩
theorem turn_set (w:World)(g k:Nat)(v:Value):Turn [g] w (w.setCell ⟨g,k,none⟩ v):=(Turn.refl [g] w).andSet _ _ (.inl (by simp))
theorem turn_one {a b d:World}{g:Nat}(h:Turn [g] a b)(k:Turn [g] b d):Turn [g] a d:=h.trans k (fun _ hi=>.inl hi)
theorem turn_four (w:World)(g:Nat)(v0 v1 v2 v3:Value):Turn [g] w ((((w.setCell ⟨g,0,none⟩ v0).setCell ⟨g,1,none⟩ v1).setCell ⟨g,2,none⟩ v2).setCell ⟨g,3,none⟩ v3):=
 turn_one (turn_one (turn_one (turn_set _ _ _ _) (turn_set _ _ _ _)) (turn_set _ _ _ _)) (turn_set _ _ _ _)
theorem turn_six (w:World)(g:Nat)(v0 v1 v2 v3 v4 v5:Value):Turn [g] w ((((((w.setCell ⟨g,0,none⟩ v0).setCell ⟨g,1,none⟩ v1).setCell ⟨g,2,none⟩ v2).setCell ⟨g,3,none⟩ v3).setCell ⟨g,4,none⟩ v4).setCell ⟨g,5,none⟩ v5):=
 turn_one (turn_one (turn_four _ _ _ _ _ _) (turn_set _ _ _ _)) (turn_set _ _ _ _)
structure ReaX (z:Nat)(w:World)(rb tb lb:Nat)(c:Int)(L:List Tk)(o off cap:Nat):Prop where
 box:Box w rb (rdL tb off L.length cap c o lb)
 le:L.length<=cap
 mx:cap<=9223372036854775807
 toks:∀ q u,(tkL L)[q]? = some u->w.cell? ⟨tb,off+q,none⟩=some u
 levs:∀ q u,lvC[q]? = some u->w.cell? ⟨lb,q,none⟩=some u
 nt:tb≠rb
 nl:lb≠rb
 lt:tb<w.heap.size
 ll:lb<w.heap.size
 tl:TL z L
 dp:o<=64
 ci:In64 c
def Rea (z:Nat)(w:World)(rb tb lb:Nat)(c:Int)(L:List Tk)(o:Nat):Prop:=∃ off cap,ReaX z w rb tb lb c L o off cap
theorem ReaX.next {z:Nat}{w w':World}{rb tb lb:Nat}{c:Int}{L:List Tk}{o off cap:Nat}(h:ReaX z w rb tb lb c L o off cap)(k:Below w.heap.size w w'):ReaX z w' rb tb lb c L o off cap:=
 ⟨h.box.next k,h.le,h.mx,fun q u hu=>(k.cell (p:=⟨tb,off+q,none⟩) h.lt).trans (h.toks q u hu),fun q u hu=>(k.cell (p:=⟨lb,q,none⟩) h.ll).trans (h.levs q u hu),h.nt,h.nl,Nat.lt_of_lt_of_le h.lt k.size,Nat.lt_of_lt_of_le h.ll k.size,h.tl,h.dp,h.ci⟩
theorem Rea.next {z:Nat}{w w':World}{rb tb lb:Nat}{c:Int}{L:List Tk}{o:Nat}(h:Rea z w rb tb lb c L o)(k:Below w.heap.size w w'):Rea z w' rb tb lb c L o:=by
 obtain⟨off,cap,h⟩:=h
 exact⟨off,cap,h.next k⟩
theorem Rea.tl {z:Nat}{w:World}{rb tb lb:Nat}{c:Int}{L:List Tk}{o:Nat}(h:Rea z w rb tb lb c L o):TL z L:=by
 obtain⟨off,cap,h⟩:=h
 exact h.tl
theorem Rea.rlt {z:Nat}{w:World}{rb tb lb:Nat}{c:Int}{L:List Tk}{o:Nat}(h:Rea z w rb tb lb c L o):rb<w.heap.size:=by
 obtain⟨off,cap,h⟩:=h
 exact h.box.lt
theorem turn_cell {S:List Nat}{w w':World}(k:Turn S w w'){b j:Nat}(hb:b<w.heap.size)(hS:b∉S):w'.cell? ⟨b,j,none⟩=w.cell? ⟨b,j,none⟩:=by
 unfold World.cell?
 rw[k.block b hb hS]
theorem ReaX.turn {z:Nat}{w w':World}{rb tb lb:Nat}{c:Int}{L:List Tk}{o off cap:Nat}{S:List Nat}(h:ReaX z w rb tb lb c L o off cap)(k:Turn S w w')(h1:rb∉S)(h2:tb∉S)(h3:lb∉S):ReaX z w' rb tb lb c L o off cap:=
 ⟨h.box.turn k h1,h.le,h.mx,fun q u hu=>(turn_cell k h.lt h2).trans (h.toks q u hu),fun q u hu=>(turn_cell k h.ll h3).trans (h.levs q u hu),h.nt,h.nl,Nat.lt_of_lt_of_le h.lt k.size,Nat.lt_of_lt_of_le h.ll k.size,h.tl,h.dp,h.ci⟩
theorem Rea.turn {z:Nat}{w w':World}{rb tb lb:Nat}{c:Int}{L:List Tk}{o:Nat}{S:List Nat}(h:Rea z w rb tb lb c L o)(k:Turn S w w')(h1:rb∉S)(h2:tb∉S)(h3:lb∉S):Rea z w' rb tb lb c L o:=by
 obtain⟨off,cap,h⟩:=h
 exact⟨off,cap,h.turn k h1 h2 h3⟩
theorem Rea.lts {z:Nat}{w:World}{rb tb lb:Nat}{c:Int}{L:List Tk}{o:Nat}(h:Rea z w rb tb lb c L o):rb<w.heap.size/\tb<w.heap.size/\lb<w.heap.size:=by
 obtain⟨off,cap,h⟩:=h
 exact⟨h.box.lt,h.lt,h.ll⟩
theorem Rea.turn1 {z:Nat}{w w':World}{rb tb lb:Nat}{c:Int}{L:List Tk}{o g:Nat}(h:Rea z w rb tb lb c L o)(k:Turn [g] w w')(hg:rb<g/\tb<g/\lb<g):Rea z w' rb tb lb c L o:=
 h.turn k (by simp;omega) (by simp;omega) (by simp;omega)
theorem fld0 (a b c d:Value)(w:World):(Instr.field 47 (.agg #[a,b,c,d]) 0).run Tryz.prog w=.ok a w:=by kernel_rfl
theorem fld1 (a b c d:Value)(w:World):(Instr.field 47 (.agg #[a,b,c,d]) 1).run Tryz.prog w=.ok b w:=by kernel_rfl
theorem fld2 (a b c d:Value)(w:World):(Instr.field 47 (.agg #[a,b,c,d]) 2).run Tryz.prog w=.ok c w:=by kernel_rfl
theorem fld3 (a b c d:Value)(w:World):(Instr.field 47 (.agg #[a,b,c,d]) 3).run Tryz.prog w=.ok d w:=by kernel_rfl
theorem tkL_hd {L:List Tk}(hL:L≠[])(q:Nat)(hq:q<4):(tkL L)[q]? = (tkC (hdT L))[q]?:=by
 cases L with
 | nil=>exact absurd rfl hL
 | cons t L=>
   show (tkC t++tkL L)[q]? = _
   rw[List.getElem?_append_left (by simpa using hq)]
   rfl
theorem tkL_tl {L:List Tk}(hL:L≠[])(q:Nat):(tkL L.tail)[q]? = (tkL L)[4+q]?:=by
 cases L with
 | nil=>exact absurd rfl hL
 | cons t L=>
   show _=(tkC t++tkL L)[4+q]?
   rw[List.getElem?_append_right (by simp)]
   simp
theorem ReaX.hd {z:Nat}{w:World}{rb tb lb:Nat}{c:Int}{L:List Tk}{o off cap:Nat}(h:ReaX z w rb tb lb c L o off cap):
 w.cell? ⟨tb,off,none⟩=some (.int .i64 (hdT L).kind)/\w.cell? ⟨tb,off+1,none⟩=some (.string (hdT L).text)/\w.cell? ⟨tb,off+2,none⟩=some (.int .i64 (hdT L).n)/\w.cell? ⟨tb,off+3,none⟩=some (.int .i64 ((hdT L).at_:Nat)):=by
 have g:=fun q (hq:q<4)=>h.toks q _ ((tkL_hd h.tl.ne q hq).trans (List.getElem?_eq_getElem (by simpa using hq)))
 exact⟨by simpa using g 0 (by omega),by simpa using g 1 (by omega),by simpa using g 2 (by omega),by simpa using g 3 (by omega)⟩
def NxP (c:Int)(L:List Tk)(w:World)(e:Ending)(w':World):Prop:=Below w.heap.size w w' /\
 match nxt c L with
 | .ok t=>e=.returned (tkW t)
 | .error f=>e=.panicked [fltE f]
set_option maxHeartbeats 1000000 in
theorem next_c {z rb tb lb:Nat}{c:Int}{L:List Tk}{o:Nat}(w:World)(hr:Rea z w rb tb lb c L o):
 Calls Tryz.prog 45 #[.pointer (some ⟨rb,0,none⟩)] w (NxP c L w):=by
 obtain⟨off,cap,h⟩:=hr
 obtain⟨t0,t1,t2,t3⟩:=h.hd
 have c0:=h.box.cell 0 _ rfl
 have c1:=h.box.cell 1 _ rfl
 have hlt:=h.box.lt
 have htl:=h.lt
 have hpos:(0:Int)<(L.length:Int):=by have:=h.tl.pos;omega
 generalize hn:L.length=n at *
 have hP:Hid (∀ e w',Below w.heap.size w w'->(e=match nxt c L with | .ok t=>.returned (tkW t) | .error f=>.panicked [fltE f])->NxP c L w e w'):=fun e w' hb he=>⟨hb,by rw[he];cases nxt c L<;>rfl⟩
 unfold nxt at hP
 generalize NxP c L w=Post at *
 generalize hdT L=t at *
 clear h hn
 have B1:Hid (∀ o1 o2,Below w.heap.size w ((w.alloc o1).alloc o2)):=fun o1 o2=>((Below.refl _ _).alloc (Nat.le_refl _) _).alloc (by simp) _
 by_cases h1:t.kind=7
 ·by_cases h2:c=0
  ·rw[if_neg (fun hh=>hh.2 h2)] at hP
   go_enter Tryz.func45,Tryz.ntmps45
   go_wp2_with fail
   refine bodyPost_ret (v:=tkW t) (by simp[results,Tryz.results45,go_sem, *]) rfl (hP.out _ _ ?_ rfl)
   exact B1.out _ _
  ·rw[if_pos ⟨h1,h2⟩] at hP
   have hc:(c != 0)=true:=by simpa using h2
   go_enter Tryz.func45,Tryz.ntmps45
   go_wp2_with fail
   go_region_dies
   all_goals try go_wp2_with fail
   all_goals exact⟨rfl,hP.out _ _ (B1.out _ _).drew rfl⟩
 ·rw[if_neg (fun hh=>h1 hh.1)] at hP
  have hk:(t.kind==7)=false:=by simpa using h1
  go_enter Tryz.func45,Tryz.ntmps45
  go_wp2_with fail
  refine bodyPost_ret (v:=tkW t) (by simp[results,Tryz.results45,go_sem, *]) rfl (hP.out _ _ ?_ rfl)
  exact B1.out _ _
theorem next_ok {z rb tb lb:Nat}{c:Int}{L:List Tk}{o:Nat}{t:Tk}(hx:nxt c L=.ok t)(w:World)(hr:Rea z w rb tb lb c L o):
 Calls Tryz.prog 45 #[.pointer (some ⟨rb,0,none⟩)] w fun e w'=>e=.returned (.agg #[.int .i64 t.kind,.string t.text,.int .i64 t.n,.int .i64 (t.at_:Nat)])/\Below w.heap.size w w':=
 (next_c w hr).mono fun e w' h=>by
   obtain⟨h1,h2⟩:=h
   rw[hx] at h2
   exact⟨h2,h1⟩
theorem next_err {z rb tb lb:Nat}{c:Int}{L:List Tk}{o:Nat}{f:Flt}(hx:nxt c L=.error f)(w:World)(hr:Rea z w rb tb lb c L o):
 Calls Tryz.prog 45 #[.pointer (some ⟨rb,0,none⟩)] w fun e w'=>e=.panicked [fltE f]/\Below w.heap.size w w':=
 (next_c w hr).mono fun e w' h=>by
   obtain⟨h1,h2⟩:=h
   rw[hx] at h2
   exact⟨h2,h1⟩
theorem ba_eq {a b:ByteArray}(h:a.toList=b.toList):a=b:=by
 rw[Lib.toList_data,Lib.toList_data] at h
 have e:=Array.toList_inj.1 h
 calc a=⟨a.data⟩:=rfl
  _=⟨b.data⟩:=by rw[e]
  _=b:=rfl
theorem ba_ne {a b:ByteArray}(h:¬ a=b):(a.toList==b.toList)=false:=by
 rw[beq_eq_false_iff_ne]
 exact fun hh=>h (ba_eq hh)
set_option maxHeartbeats 1000000 in
theorem is_ok {z rb tb lb:Nat}{c:Int}{L:List Tk}{o:Nat}{t:Tk}(hx:nxt c L=.ok t)(x:ByteArray)(w:World)(hr:Rea z w rb tb lb c L o):
 Calls Tryz.prog 47 #[.pointer (some ⟨rb,0,none⟩),.string x] w fun e w'=>e=.returned (.bool (isT x t))/\Below w.heap.size w w':=by
 have HN:=hid2 (fun W (k:Below w.heap.size w W)=>next_ok hx W (hr.next k))
 have B0:Hid (∀ o,Below w.heap.size w (w.alloc o)):=fun o=>(Below.refl _ _).alloc (Nat.le_refl _) _
 clear hr hx
 unfold isT
 by_cases h1:t.text=x
 ·by_cases h2:t.kind=5
  ·have e1:(decide (t.text=x)&&(decide (t.kind=5)||decide (t.kind=6)))=true:=by simp[h1,h2]
   rw[e1]
   clear e1
   go_enter Tryz.func47,Tryz.ntmps47
   go_wp2_with fail
   refine Calls.mono (HN.out _ (by first | exact Below.refl _ _ | exact B0.out _)) ?_
   rintro e w1 ⟨rfl,b1⟩
   go_wp2_with fail
   go_ret
   exact⟨rfl,b1.alloc b1.size _⟩
  ·by_cases h3:t.kind=6
   ·have e1:(decide (t.text=x)&&(decide (t.kind=5)||decide (t.kind=6)))=true:=by simp[h1,h3]
    rw[e1]
    clear e1 h2
    go_enter Tryz.func47,Tryz.ntmps47
    go_wp2_with fail
    refine Calls.mono (HN.out _ (by first | exact Below.refl _ _ | exact B0.out _)) ?_
    rintro e w1 ⟨rfl,b1⟩
    go_wp2_with fail
    go_ret
    exact⟨rfl,b1.alloc b1.size _⟩
   ·have e1:(decide (t.text=x)&&(decide (t.kind=5)||decide (t.kind=6)))=false:=by simp[h2,h3]
    rw[e1]
    have k2:(t.kind==5)=false:=by simpa using h2
    have k3:(t.kind==6)=false:=by simpa using h3
    clear e1
    go_enter Tryz.func47,Tryz.ntmps47
    go_wp2_with fail
    refine Calls.mono (HN.out _ (by first | exact Below.refl _ _ | exact B0.out _)) ?_
    rintro e w1 ⟨rfl,b1⟩
    go_wp2_with fail
    go_ret
    exact⟨rfl,b1.alloc b1.size _⟩
 ·have e1:(decide (t.text=x)&&(decide (t.kind=5)||decide (t.kind=6)))=false:=by simp[h1]
  rw[e1]
  have k1:=ba_ne h1
  clear e1
  go_enter Tryz.func47,Tryz.ntmps47
  go_wp2_with fail
  refine Calls.mono (HN.out _ (by first | exact Below.refl _ _ | exact B0.out _)) ?_
  rintro e w1 ⟨rfl,b1⟩
  go_wp2_with fail
  go_ret
  exact⟨rfl,b1.alloc b1.size _⟩
theorem is_err {z rb tb lb:Nat}{c:Int}{L:List Tk}{o:Nat}{f:Flt}(hx:nxt c L=.error f)(x:ByteArray)(w:World)(hr:Rea z w rb tb lb c L o):
 Calls Tryz.prog 47 #[.pointer (some ⟨rb,0,none⟩),.string x] w fun e w'=>e=.panicked [fltE f]/\Below w.heap.size w w':=by
 have HN:=hid2 (fun W (k:Below w.heap.size w W)=>next_err hx W (hr.next k))
 have B0:Hid (∀ o,Below w.heap.size w (w.alloc o)):=fun o=>(Below.refl _ _).alloc (Nat.le_refl _) _
 clear hr hx
 go_enter Tryz.func47,Tryz.ntmps47
 go_wp2_with fail
 refine Calls.mono (HN.out _ (by first | exact Below.refl _ _ | exact B0.out _)) ?_
 rintro e w1 ⟨rfl,b1⟩
 go_wp2_with fail
 exact⟨rfl,rfl,b1⟩
set_option maxRecDepth 20000 in
theorem unfit_ok {z rb tb lb:Nat}{c:Int}{L:List Tk}{o:Nat}{t:Tk}(hx:nxt c L=.ok t)(w:World)(hr:Rea z w rb tb lb c L o):
 Calls Tryz.prog 46 #[.pointer (some ⟨rb,0,none⟩)] w fun e w'=>e=.returned (fltV (t.at_,16))/\Below w.heap.size w w':=by
 have HN:=hid2 (fun W (k:Below w.heap.size w W)=>next_ok hx W (hr.next k))
 have B0:Hid (∀ o,Below w.heap.size w (w.alloc o)):=fun o=>(Below.refl _ _).alloc (Nat.le_refl _) _
 clear hr hx
 have g3:=fld3
 have b0:=(Box.new w [.int .i64 0,.int .i64 0] 74)
 go_enter Tryz.func46,Tryz.ntmps46
 go_wp2_with fail
 refine Calls.mono (HN.out _ (by first | exact Below.refl _ _ | exact B0.out _)) ?_
 rintro e w1 ⟨rfl,b1⟩
 have X:=b0.next b1
 obtain⟨c0,c1,f0,f1⟩:=X.two
 go_wp2_with fail
 refine bodyPost_ret (v:=fltV (t.at_,16)) (by simp[results,Tryz.results46,go_sem, *]) rfl ⟨rfl,?_⟩
 exact(((below_on (B0.out _) b1 (by simp)).setCell (Nat.le_refl _) _).setCell (Nat.le_refl _) _)
def Out {α : Type}(V : α -> Value->World->Prop)(z:Nat)(w:World)(rb tb lb:Nat)(c:Int)(o:Nat)(r:Rs α)(e:Ending)(w':World):Prop:=
 Turn [rb] w w'/\match r with
  | .ok y=>∃ v,e=.returned v/\V y.1 v w'/\Rea z w' rb tb lb c y.2 o
  | .error f=>e=.panicked [fltE f]
theorem Out.of_ok {α : Type}{V : α -> Value->World->Prop}{z:Nat}{w:World}{rb tb lb:Nat}{c:Int}{o:Nat}{r:Rs α}{y : α × List Tk}{e:Ending}{w':World}(hx:r=.ok y)(h:Out V z w rb tb lb c o r e w'):Turn [rb] w w'/\∃ v,e=.returned v/\V y.1 v w'/\Rea z w' rb tb lb c y.2 o:=by
 subst hx
 exact h
theorem Out.of_err {α : Type}{V : α -> Value->World->Prop}{z:Nat}{w:World}{rb tb lb:Nat}{c:Int}{o:Nat}{r:Rs α}{f:Flt}{e:Ending}{w':World}(hx:r=.error f)(h:Out V z w rb tb lb c o r e w'):e=.panicked [fltE f]/\Turn [rb] w w':=by
 subst hx
 exact⟨h.2,h.1⟩
theorem Out.mk_ok {α : Type}{V : α -> Value->World->Prop}{z:Nat}{w:World}{rb tb lb:Nat}{c:Int}{o:Nat}{r:Rs α}{y : α}{L:List Tk}{v:Value}{w':World}(hx:r=.ok (y,L))(ht:Turn [rb] w w')(hv:V y v w')(hr:Rea z w' rb tb lb c L o):Out V z w rb tb lb c o r (.returned v) w':=by
 subst hx
 exact⟨ht,v,rfl,hv,hr⟩
theorem Out.mk_err {α : Type}{V : α -> Value->World->Prop}{z:Nat}{w:World}{rb tb lb:Nat}{c:Int}{o:Nat}{r:Rs α}{f:Flt}{w':World}(hx:r=.error f)(ht:Turn [rb] w w'):Out V z w rb tb lb c o r (.panicked [fltE f]) w':=by
 subst hx
 exact⟨ht,rfl⟩
abbrev VTk:Tk->Value->World->Prop:=fun t v _=>v=tkW t
abbrev VAt:Nat->Value->World->Prop:=fun a v _=>v=.int .i64 (a:Nat)
abbrev VBo:Bool->Value->World->Prop:=fun b v _=>v=.bool b
abbrev VSt:ByteArray->Value->World->Prop:=fun b v _=>v=.string b
abbrev VNo {α : Type}: α -> Value->World->Prop:=fun _ v _=>v=.tuple #[]
theorem ReaX.took {z:Nat}{w:World}{rb tb lb:Nat}{c:Int}{L:List Tk}{o off cap:Nat}(h:ReaX z w rb tb lb c L o off cap)(hk:(hdT L).kind≠7):ReaX z (w.setCell ⟨rb,0,none⟩ (.slice (some ⟨tb,off+4,none⟩) (L.length-1) (cap-1))) rb tb lb c L.tail o (off+4) (cap-1):=by
 have hp:=h.tl.pos
 have hle:=h.le
 have hmx:=h.mx
 have ht:=h.tl.tail hk
 refine⟨?_,by rw[List.length_tail];omega,by omega,fun q u hu=>?_,fun q u hu=>?_,h.nt,h.nl,by simpa using h.lt,by simpa using h.ll,ht,h.dp,h.ci⟩
 ·have:=h.box.set 0 (by simp) (.slice (some ⟨tb,off+4,none⟩) (L.length-1) (cap-1))
  rw[List.length_tail]
  exact this
 ·rw[tkL_tl h.tl.ne] at hu
  have h1:=h.nt
  rw[World.cell?_setCell_far _ _ _ _ (by simpa using fun h=>h1 h.symm),Nat.add_assoc]
  exact h.toks _ _ hu
 ·have h1:=h.nl
  rw[World.cell?_setCell_far _ _ _ _ (by simpa using fun h=>h1 h.symm)]
  exact h.levs _ _ hu
set_option maxHeartbeats 1000000 in
theorem take_c2 {z rb tb lb:Nat}{c:Int}{L:List Tk}{o:Nat}(k:Int)(hk7:k≠7)(w:World)(hr:Rea z w rb tb lb c L o):
 Calls Tryz.prog 28 #[.pointer (some ⟨rb,0,none⟩),.int .i64 k] w (Out VTk z w rb tb lb c o (takeK c k L)):=by
 rcases hx:nxt c L with f | t
 ·have HN:=hid2 (fun W (k:Below w.heap.size w W)=>next_err hx W (hr.next k))
  have hP:Hid (∀ w',Turn [rb] w w'->Out VTk z w rb tb lb c o (takeK c k L) (.panicked [fltE f]) w'):=fun w' ht=>Out.mk_err (by unfold takeK;rw[hx];rfl) ht
  generalize Out VTk z w rb tb lb c o (takeK c k L)=Post at *
  have B0:Hid (∀ o,Below w.heap.size w (w.alloc o)):=fun o=>(Below.refl _ _).alloc (Nat.le_refl _) _
  clear hr hx
  go_enter Tryz.func28,Tryz.ntmps28
  go_wp2_with fail
  refine Calls.mono (HN.out _ (by first | exact Below.refl _ _ | exact B0.out _)) ?_
  rintro e w1 ⟨rfl,b1⟩
  go_wp2_with fail
  exact⟨rfl,hP.out _ (Turn.of_below (below_on (B0.out _) b1 (by simp)))⟩
 ·by_cases h1:t.kind=k
  ·have HN:=hid2 (fun W (k:Below w.heap.size w W)=>next_ok hx W (hr.next k))
   have hth:hdT L=t:=by
    unfold nxt at hx
    split at hx
    ·cases hx
    ·cases hx;rfl
   obtain⟨off,cap,hrx⟩:=hr
   have hP:Hid (∀ w' ,Turn [rb] w w'->Rea z w' rb tb lb c L.tail o->Out VTk z w rb tb lb c o (takeK c k L) (.returned (tkW t)) w'):=fun w' ht hr'=>Out.mk_ok (by unfold takeK;rw[hx];exact if_pos h1) ht rfl hr'
   generalize Out VTk z w rb tb lb c o (takeK c k L)=Post at *
   have HX:=hid2 hrx
   have hpos:(0:Int)<(L.length:Int):=by have:=hrx.tl.pos;omega
   have hle:=hrx.le
   have hmx:=hrx.mx
   have h7:(hdT L).kind≠7:=by rw[hth,h1];exact hk7
   have hl2:2<=L.length:=by
    have:=(hrx.tl.tail h7).pos
    rw[List.length_tail] at this
    omega
   clear hrx hx
   go_enter Tryz.func28,Tryz.ntmps28
   go_wp2_with fail
   refine Calls.mono (HN.out _ (by first | exact Below.refl _ _ | exact(Below.refl _ _).alloc (Nat.le_refl _) _)) ?_
   rintro e w1 ⟨rfl,b1⟩
   have b2:Below w.heap.size w w1:=below_on ((Below.refl _ _).alloc (Nat.le_refl _) _) b1 (by simp)
   have X0:=(Box.new w [.int .i64 0,.string ⟨#[]⟩,.int .i64 0,.int .i64 0] 47).next b1
   clear b1
   have HX1:=hid2 (HX.out.next b2)
   have c0:=HX1.out.box.cell 0 _ rfl
   have f0:=HX1.out.box.free 0 (by simp)
   have hlt:=HX1.out.box.lt
   have HT:=hid2 (HX1.out.took h7)
   generalize hn:L.length=n at *
   have T1:Hid (Turn [rb] w w1):=Turn.of_below b2
   have hne:w.heap.size≠rb:=by have:=HX.out.box.lt;omega
   obtain⟨x0,x1,x2,x3,y0,y1,y2,y3⟩:=(Box.other (q:=rb) (j:=0) (v:=.slice (some ⟨tb,off+4,none⟩) (n-1) (cap-1)) X0 hne).four
   have xl:=X0.lt
   have HL:=hid2 (show rb<w.heap.size/\tb<w.heap.size/\lb<w.heap.size from ⟨HX.out.box.lt,HX.out.lt,HX.out.ll⟩)
   clear HX HN
   go_wp2_with fail
   all_goals first|(exfalso;omega) | skip
   refine bodyPost_ret (v:=tkW t) (by simp[results,Tryz.results28,go_sem, *]) rfl (hP.out _ ?_ ?_)
   ·exact((T1.out.andSet _ _ (.inl (by simp))).trans (turn_four _ _ _ _ _ _) (fun i hi=>.inr (by simp at hi;omega))).andBelow ((Below.refl _ _).alloc (Nat.le_refl _) _)
   ·exact(Rea.turn1 ⟨_,_,HT.out⟩ (turn_four _ _ _ _ _ _) HL.out).next ((Below.refl _ _).alloc (Nat.le_refl _) _)
  ·have HN:=hid2 (fun W (k:Below w.heap.size w W)=>next_ok hx W (hr.next k))
   have HU:=hid2 (fun W (k:Below w.heap.size w W)=>unfit_ok hx W (hr.next k))
   have hP:Hid (∀ w',Turn [rb] w w'->Out VTk z w rb tb lb c o (takeK c k L) (.panicked [fltE (t.at_,16)]) w'):=fun w' ht=>Out.mk_err (by unfold takeK;rw[hx];exact if_neg h1) ht
   generalize Out VTk z w rb tb lb c o (takeK c k L)=Post at *
   have B0:Hid (∀ o,Below w.heap.size w (w.alloc o)):=fun o=>(Below.refl _ _).alloc (Nat.le_refl _) _
   have hk:(t.kind != k)=true:=by simpa using h1
   clear hr hx
   go_enter Tryz.func28,Tryz.ntmps28
   go_wp2_with fail
   refine Calls.mono (HN.out _ (by first | exact Below.refl _ _ | exact B0.out _)) ?_
   rintro e w1 ⟨rfl,b1⟩
   have b2:Below w.heap.size w w1:=below_on (B0.out _) b1 (by simp)
   go_wp2_with fail
   refine Calls.mono (HU.out _ (b2.alloc b2.size _)) ?_
   rintro e w2 ⟨rfl,b3⟩
   go_wp2_with fail
   exact⟨rfl,hP.out _ (Turn.of_below (below_on (b2.alloc b2.size _) b3 (by simp;have:=b2.size;omega)))⟩
set_option maxHeartbeats 1000000 in
theorem must_c {z rb tb lb:Nat}{c:Int}{L:List Tk}{o:Nat}(x:ByteArray)(w:World)(hr:Rea z w rb tb lb c L o):
 Calls Tryz.prog 27 #[.pointer (some ⟨rb,0,none⟩),.string x] w (Out VAt z w rb tb lb c o (mustS c x L)):=by
 rcases hx:nxt c L with f | t
 ·have HI:=hid2 (is_err hx x w hr)
  have hP:Hid (∀ w',Turn [rb] w w'->Out VAt z w rb tb lb c o (mustS c x L) (.panicked [fltE f]) w'):=fun w' ht=>Out.mk_err (by unfold mustS;rw[hx];rfl) ht
  generalize Out VAt z w rb tb lb c o (mustS c x L)=Post at *
  clear hr hx
  go_enter Tryz.func27,Tryz.ntmps27
  go_wp2_with fail
  refine Calls.mono HI.out ?_
  rintro e w1 ⟨rfl,b1⟩
  go_wp2_with fail
  exact⟨rfl,hP.out _ (Turn.of_below b1)⟩
 ·cases h1:isT x t with
  | true=>
    have HI:=hid2 (is_ok hx x w hr)
    have HN:=hid2 (fun W (k:Below w.heap.size w W)=>next_ok hx W (hr.next k))
    have HT:=hid2 (fun W (k:Below w.heap.size w W)=>take_c2 t.kind (isT_kind h1) W (hr.next k))
    have ht:takeK c t.kind L=.ok (t,L.tail):=by unfold takeK;rw[hx];exact if_pos rfl
    rw[ht] at HT
    have hP:Hid (∀ w',Turn [rb] w w'->Rea z w' rb tb lb c L.tail o->Out VAt z w rb tb lb c o (mustS c x L) (.returned (.int .i64 (t.at_:Nat))) w'):=fun w' ht hr'=>Out.mk_ok (by unfold mustS;rw[hx];exact if_pos h1) ht rfl hr'
    generalize Out VAt z w rb tb lb c o (mustS c x L)=Post at *
    rw[h1] at HI
    have g3:=fld3
    have g0:=fld0
    clear hr hx ht h1
    go_enter Tryz.func27,Tryz.ntmps27
    go_wp2_with fail
    refine Calls.mono HI.out ?_
    rintro e w1 ⟨rfl,b1⟩
    go_wp2_with fail
    refine Calls.mono (HN.out _ b1) ?_
    rintro e w2 ⟨rfl,b2⟩
    go_wp2_with fail
    refine Calls.mono (HT.out _ (below_on b1 b2 b1.size)) ?_
    rintro e w3 ⟨t3,v,rfl,rfl,r3⟩
    simp only[tkW]
    go_wp2_with fail
    exact hP.out _ ((Turn.of_below (below_on b1 b2 b1.size)).trans t3 (fun i hi=>.inl hi)) r3
  | false=>
    have HI:=hid2 (is_ok hx x w hr)
    have HU:=hid2 (fun W (k:Below w.heap.size w W)=>unfit_ok hx W (hr.next k))
    have hP:Hid (∀ w',Turn [rb] w w'->Out VAt z w rb tb lb c o (mustS c x L) (.panicked [fltE (t.at_,16)]) w'):=fun w' ht=>Out.mk_err (by unfold mustS;rw[hx];exact if_neg (by rw[h1];simp)) ht
    generalize Out VAt z w rb tb lb c o (mustS c x L)=Post at *
    rw[h1] at HI
    clear hr hx h1
    go_enter Tryz.func27,Tryz.ntmps27
    go_wp2_with fail
    refine Calls.mono HI.out ?_
    rintro e w1 ⟨rfl,b1⟩
    go_wp2_with fail
    refine Calls.mono (HU.out _ b1) ?_
    rintro e w2 ⟨rfl,b2⟩
    go_wp2_with fail
    exact⟨rfl,hP.out _ (Turn.of_below (below_on b1 b2 b1.size))⟩
theorem mustS_of {c:Int}{x:ByteArray}{L:List Tk}{t:Tk}(hx:nxt c L=.ok t)(h:isT x t=true):mustS c x L=.ok (t.at_,L.tail):=by unfold mustS;rw[hx];exact if_pos h
set_option maxHeartbeats 1000000 in
theorem may_c {z rb tb lb:Nat}{c:Int}{L:List Tk}{o:Nat}(x:ByteArray)(w:World)(hr:Rea z w rb tb lb c L o):
 Calls Tryz.prog 75 #[.pointer (some ⟨rb,0,none⟩),.string x] w (Out VBo z w rb tb lb c o (mayS c x L)):=by
 rcases hx:nxt c L with f | t
 ·have HI:=hid2 (is_err hx x w hr)
  have hP:Hid (∀ w',Turn [rb] w w'->Out VBo z w rb tb lb c o (mayS c x L) (.panicked [fltE f]) w'):=fun w' ht=>Out.mk_err (by unfold mayS;rw[hx];rfl) ht
  generalize Out VBo z w rb tb lb c o (mayS c x L)=Post at *
  clear hr hx
  go_enter Tryz.func75,Tryz.ntmps75
  go_wp2_with fail
  refine Calls.mono HI.out ?_
  rintro e w1 ⟨rfl,b1⟩
  go_wp2_with fail
  exact⟨rfl,hP.out _ (Turn.of_below b1)⟩
 ·cases h1:isT x t with
  | true=>
    have HI:=hid2 (is_ok hx x w hr)
    have HM:=hid2 (fun W (k:Below w.heap.size w W)=>must_c x W (hr.next k))
    rw[mustS_of hx h1] at HM
    have hP:Hid (∀ w',Turn [rb] w w'->Rea z w' rb tb lb c L.tail o->Out VBo z w rb tb lb c o (mayS c x L) (.returned (.bool true)) w'):=fun w' ht hr'=>Out.mk_ok (by unfold mayS;rw[hx];exact if_pos h1) ht rfl hr'
    generalize Out VBo z w rb tb lb c o (mayS c x L)=Post at *
    rw[h1] at HI
    clear hr hx h1
    go_enter Tryz.func75,Tryz.ntmps75
    go_wp2_with fail
    refine Calls.mono HI.out ?_
    rintro e w1 ⟨rfl,b1⟩
    go_wp2_with fail
    refine Calls.mono (HM.out _ b1) ?_
    rintro e w2 ⟨t2,v,rfl,rfl,r2⟩
    go_wp2_with fail
    try go_ret
    exact hP.out _ ((Turn.of_below b1).trans t2 (fun i hi=>.inl hi)) r2
  | false=>
    have HI:=hid2 (is_ok hx x w hr)
    have hP:Hid (∀ w',Below w.heap.size w w'->Out VBo z w rb tb lb c o (mayS c x L) (.returned (.bool false)) w'):=fun w' hb=>Out.mk_ok (by unfold mayS;rw[hx];exact if_neg (by rw[h1];simp)) (Turn.of_below hb) rfl (hr.next hb)
    generalize Out VBo z w rb tb lb c o (mayS c x L)=Post at *
    rw[h1] at HI
    clear hr hx h1
    go_enter Tryz.func75,Tryz.ntmps75
    go_wp2_with fail
    refine Calls.mono HI.out ?_
    rintro e w1 ⟨rfl,b1⟩
    go_wp2_with fail
    try go_ret
    exact hP.out _ b1
theorem Rea.opened {z:Nat}{w:World}{rb tb lb:Nat}{c:Int}{L:List Tk}{o:Nat}(h:Rea z w rb tb lb c L o)(o':Nat)(ho:o'<=64):Rea z (w.setCell ⟨rb,2,none⟩ (.int .i64 (o':Nat))) rb tb lb c L o':=by
 obtain⟨off,cap,h⟩:=h
 have h1:=h.nt
 have h2:=h.nl
 refine⟨off,cap,h.box.set 2 (by simp) _,h.le,h.mx,fun q u hu=>?_,fun q u hu=>?_,h.nt,h.nl,by simpa using h.lt,by simpa using h.ll,h.tl,ho,h.ci⟩
 ·rw[World.cell?_setCell_far _ _ _ _ (by simpa using fun h=>h1 h.symm)]
  exact h.toks _ _ hu
 ·rw[World.cell?_setCell_far _ _ _ _ (by simpa using fun h=>h2 h.symm)]
  exact h.levs _ _ hu
theorem Rea.c2 {z:Nat}{w:World}{rb tb lb:Nat}{c:Int}{L:List Tk}{o:Nat}(h:Rea z w rb tb lb c L o):w.cell? ⟨rb,2,none⟩=some (.int .i64 (o:Nat))/\w.frozen? ⟨rb,2,none⟩=false/\rb<w.heap.size/\o<=64:=by
 obtain⟨off,cap,h⟩:=h
 exact⟨h.box.cell 2 _ rfl,h.box.free 2 (by simp),h.box.lt,h.dp⟩
def BegP (x:ByteArray)(z:Nat)(w:World)(rb tb lb:Nat)(c:Int)(o:Nat)(L:List Tk)(e:Ending)(w':World):Prop:=
 Turn [rb] w w'/\match mustS c x L with
  | .ok y=>if o=64 then e=.panicked [fltE (y.1,15)] else e=.returned (.tuple #[])/\Rea z w' rb tb lb c y.2 (o+1)
  | .error f=>e=.panicked [fltE f]
set_option maxHeartbeats 1000000 in
theorem begin_c {z rb tb lb:Nat}{c:Int}{L:List Tk}{o:Nat}(x:ByteArray)(w:World)(hr:Rea z w rb tb lb c L o):
 Calls Tryz.prog 102 #[.pointer (some ⟨rb,0,none⟩),.string x] w (BegP x z w rb tb lb c o L):=by
 have HM:=hid2 (must_c x w hr)
 rcases hx:mustS c x L with f | y
 ·have hP:Hid (∀ w',Turn [rb] w w'->BegP x z w rb tb lb c o L (.panicked [fltE f]) w'):=fun w' ht=>⟨ht,by rw[hx]⟩
  generalize BegP x z w rb tb lb c o L=Post at *
  rw[hx] at HM
  clear hr hx
  go_enter Tryz.func102,Tryz.ntmps102
  go_wp2_with fail
  refine Calls.mono HM.out ?_
  rintro e w1 ⟨t1,rfl⟩
  go_wp2_with fail
  exact⟨rfl,hP.out _ t1⟩
 ·by_cases h1:o=64
  ·have hP:Hid (∀ w',Turn [rb] w w'->BegP x z w rb tb lb c o L (.panicked [fltE (y.1,15)]) w'):=fun w' ht=>⟨ht,by rw[hx];show (if o=64 then _ else _);rw[if_pos h1]⟩
   generalize BegP x z w rb tb lb c o L=Post at *
   rw[hx] at HM
   clear hr hx
   go_enter Tryz.func102,Tryz.ntmps102
   go_wp2_with fail
   refine Calls.mono HM.out ?_
   rintro e w1 ⟨t1,v,rfl,rfl,r1⟩
   obtain⟨c2,f2,hl,ho⟩:=r1.c2
   have hL:=r1.lts
   have h64:((o:Nat):Int)=64:=by omega
   rw[h64] at c2
   clear r1
   go_wp2_with fail
   exact⟨rfl,hP.out _ t1⟩
  ·have hP:Hid (∀ w',Turn [rb] w w'->Rea z w' rb tb lb c y.2 (o+1)->BegP x z w rb tb lb c o L (.returned (.tuple #[])) w'):=fun w' ht hr'=>⟨ht,by rw[hx];show (if o=64 then _ else _);rw[if_neg h1];exact⟨rfl,hr'⟩⟩
   generalize BegP x z w rb tb lb c o L=Post at *
   rw[hx] at HM
   clear hr hx
   go_enter Tryz.func102,Tryz.ntmps102
   go_wp2_with fail
   refine Calls.mono HM.out ?_
   rintro e w1 ⟨t1,v,rfl,rfl,r1⟩
   obtain⟨c2,f2,hl,ho⟩:=r1.c2
   have R:=hid2 r1
   have h64:¬((o:Nat):Int)=64:=by omega
   clear r1
   go_wp2_with fail
   go_end0
   exact hP.out _ (t1.andSet _ _ (.inl (by simp))) (R.out.opened (o+1) (by omega))
set_option maxHeartbeats 1000000 in
theorem close_c {z rb tb lb:Nat}{c:Int}{L:List Tk}{o:Nat}(x:ByteArray)(w:World)(hr:Rea z w rb tb lb c L (o+1)):
 Calls Tryz.prog 104 #[.pointer (some ⟨rb,0,none⟩),.string x] w (Out VNo z w rb tb lb c o (mustS c x L)):=by
 have HM:=hid2 (must_c x w hr)
 rcases hx:mustS c x L with f | y
 ·have hP:Hid (∀ w',Turn [rb] w w'->Out VNo z w rb tb lb c o (mustS c x L) (.panicked [fltE f]) w'):=fun w' ht=>Out.mk_err hx ht
  rw[<-hx]
  generalize Out VNo z w rb tb lb c o (mustS c x L)=Post at *
  rw[hx] at HM
  clear hr hx
  go_enter Tryz.func104,Tryz.ntmps104
  go_wp2_with fail
  refine Calls.mono HM.out ?_
  rintro e w1 ⟨t1,rfl⟩
  go_wp2_with fail
  exact⟨rfl,hP.out _ t1⟩
 ·have hP:Hid (∀ w',Turn [rb] w w'->Rea z w' rb tb lb c y.2 o->Out VNo z w rb tb lb c o (mustS c x L) (.returned (.tuple #[])) w'):=fun w' ht hr'=>Out.mk_ok hx ht rfl hr'
  rw[<-hx]
  generalize Out VNo z w rb tb lb c o (mustS c x L)=Post at *
  rw[hx] at HM
  clear hr hx
  go_enter Tryz.func104,Tryz.ntmps104
  go_wp2_with fail
  refine Calls.mono HM.out ?_
  rintro e w1 ⟨t1,v,rfl,rfl,r1⟩
  obtain⟨c2,f2,hl,ho⟩:=r1.c2
  have R:=hid2 r1
  clear r1
  go_wp2_with fail
  go_end0
  exact hP.out _ (t1.andSet _ _ (.inl (by simp))) (R.out.opened o (by omega))
def EndQ (w:World)(c:Int)(L:List Tk)(e:Ending)(w':World):Prop:=
 Below w.heap.size w w'/\match (endP c ((),L):Except Flt Unit) with
  | .ok _=>e=.returned (.tuple #[])
  | .error f=>e=.panicked [fltE f]
set_option maxHeartbeats 1000000 in
theorem end_c {z rb tb lb:Nat}{c:Int}{L:List Tk}{o:Nat}(w:World)(hr:Rea z w rb tb lb c L o):
 Calls Tryz.prog 26 #[.pointer (some ⟨rb,0,none⟩)] w (EndQ w c L):=by
 have g0:=fld0
 rcases hx:nxt c L with f | t
 ·have HN:=hid2 (next_err hx w hr)
  have hP:Hid (∀ w',Below w.heap.size w w'->EndQ w c L (.panicked [fltE f]) w'):=fun w' ht=>⟨ht,by unfold endP;rw[hx];rfl⟩
  generalize EndQ w c L=Post at *
  clear hr hx
  go_enter Tryz.func26,Tryz.ntmps26
  go_wp2_with fail
  refine Calls.mono HN.out ?_
  rintro e w1 ⟨rfl,b1⟩
  go_wp2_with fail
  exact⟨rfl,hP.out _ b1⟩
 ·have HN:=hid2 (next_ok hx w hr)
  by_cases h1:t.kind=7
  ·have hP:Hid (∀ w',Below w.heap.size w w'->EndQ w c L (.returned (.tuple #[])) w'):=fun w' ht=>⟨ht,by unfold endP;rw[hx,bnd_ok,if_pos h1]⟩
   generalize EndQ w c L=Post at *
   clear hr hx
   go_enter Tryz.func26,Tryz.ntmps26
   go_wp2_with fail
   refine Calls.mono HN.out ?_
   rintro e w1 ⟨rfl,b1⟩
   go_wp2_with fail
   go_end0
   exact hP.out _ b1
  ·have hP:Hid (∀ w',Below w.heap.size w w'->EndQ w c L (.panicked [fltE (t.at_,16)]) w'):=fun w' ht=>⟨ht,by unfold endP;rw[hx,bnd_ok,if_neg h1]⟩
   have HU:=hid2 (fun W (k:Below w.heap.size w W)=>unfit_ok hx W (hr.next k))
   have hk:(t.kind != 7)=true:=by simpa using h1
   generalize EndQ w c L=Post at *
   clear hr hx
   go_enter Tryz.func26,Tryz.ntmps26
   go_wp2_with fail
   refine Calls.mono HN.out ?_
   rintro e w1 ⟨rfl,b1⟩
   go_wp2_with fail
   refine Calls.mono (HU.out _ b1) ?_
   rintro e w2 ⟨rfl,b2⟩
   go_wp2_with fail
   exact⟨rfl,hP.out _ (below_on b1 b2 b1.size)⟩
set_option maxHeartbeats 1000000 in
theorem unit_c {z rb tb lb:Nat}{c:Int}{L:List Tk}{o:Nat}(w:World)(hr:Rea z w rb tb lb c L o):
 Calls Tryz.prog 74 #[.pointer (some ⟨rb,0,none⟩)] w (Out VSt z w rb tb lb c o (unitP c L)):=by
 have g0:=fld0
 have g1:=fld1
 rcases hx:nxt c L with f | t
 ·have HN:=hid2 (next_err hx w hr)
  have hP:Hid (∀ w',Turn [rb] w w'->Out VSt z w rb tb lb c o (unitP c L) (.panicked [fltE f]) w'):=fun w' ht=>Out.mk_err (by unfold unitP;rw[hx];rfl) ht
  generalize Out VSt z w rb tb lb c o (unitP c L)=Post at *
  clear hr hx
  go_enter Tryz.func74,Tryz.ntmps74
  go_wp2_with fail
  refine Calls.mono HN.out ?_
  rintro e w1 ⟨rfl,b1⟩
  go_wp2_with fail
  exact⟨rfl,hP.out _ (Turn.of_below b1)⟩
 ·have HN:=hid2 (next_ok hx w hr)
  by_cases h1:t.kind=8
  ·have HT:=hid2 (fun W (k:Below w.heap.size w W)=>take_c2 8 (by decide) W (hr.next k))
   have ht:takeK c 8 L=.ok (t,L.tail):=by unfold takeK;rw[hx];exact if_pos h1
   rw[ht] at HT
   have hP:Hid (∀ w',Turn [rb] w w'->Rea z w' rb tb lb c L.tail o->Out VSt z w rb tb lb c o (unitP c L) (.returned (.string t.text)) w'):=fun w' ht hr'=>Out.mk_ok (by unfold unitP;rw[hx];exact if_pos h1) ht rfl hr'
   generalize Out VSt z w rb tb lb c o (unitP c L)=Post at *
   clear hr hx ht
   go_enter Tryz.func74,Tryz.ntmps74
   go_wp2_with fail
   refine Calls.mono HN.out ?_
   rintro e w1 ⟨rfl,b1⟩
   go_wp2_with fail
   refine Calls.mono (HT.out _ b1) ?_
   rintro e w2 ⟨t2,v,rfl,rfl,r2⟩
   simp only[tkW]
   go_wp2_with fail
   try go_ret
   exact hP.out _ ((Turn.of_below b1).trans t2 (fun i hi=>.inl hi)) r2
  ·have hk:(t.kind != 8)=true:=by simpa using h1
   have hP:Hid (∀ w',Below w.heap.size w w'->Out VSt z w rb tb lb c o (unitP c L) (.returned (.string ⟨#[]⟩)) w'):=fun w' hb=>Out.mk_ok (by unfold unitP;rw[hx];exact if_neg h1) (Turn.of_below hb) rfl (hr.next hb)
   generalize Out VSt z w rb tb lb c o (unitP c L)=Post at *
   clear hr hx
   go_enter Tryz.func74,Tryz.ntmps74
   go_wp2_with fail
   refine Calls.mono HN.out ?_
   rintro e w1 ⟨rfl,b1⟩
   go_wp2_with fail
   try go_ret
   exact hP.out _ b1
theorem term_c (k a:Int)(ad:Option Addr)(n cap:Nat)(w:World):Calls Tryz.prog 76 #[.int .i64 k,.int .i64 a,.slice ad n cap] w fun e w'=>e=.returned (.agg #[.int .i64 k,.string ⟨#[]⟩,.int .i64 0,.int .i64 0,.int .i64 a,.slice ad n cap])/\Below w.heap.size w w':=by
 have B0:Hid (∀ o,Below w.heap.size w (w.alloc o)):=fun o=>(Below.refl _ _).alloc (Nat.le_refl _) _
 go_enter Tryz.func76,Tryz.ntmps76
 go_wp2_with fail
 refine bodyPost_ret (v:=.agg #[.int .i64 k,.string ⟨#[]⟩,.int .i64 0,.int .i64 0,.int .i64 a,.slice ad n cap]) (by simp[results,Tryz.results76,go_sem, *]) rfl ⟨rfl,?_⟩
 exact B0.out _
abbrev VTm (B z:Nat):Tm->Value->World->Prop:=fun t v w'=>∃ u,v=tmV t u/\SitB B z w' t u
abbrev zs6:List Value:=[.int .i64 0,.string ⟨#[]⟩,.int .i64 0,.int .i64 0,.int .i64 0,.slice none 0 0]
theorem takeK_inv {c k:Int}{L:List Tk}{y:Tk×List Tk}(h:takeK c k L=.ok y):y=(hdT L,L.tail)/\(hdT L).kind=k:=by
 obtain⟨t,h1,h2⟩:=bnd_inv h
 unfold nxt at h1
 split at h1
 ·cases h1
 ·cases h1
  split at h2
  ·cases h2
   exact⟨rfl,by assumption⟩
  ·cases h2
theorem takeK_tl {z:Nat}{c k:Int}{L:List Tk}{y:Tk×List Tk}(hL:TL z L)(h:takeK c k L=.ok y)(hk:k≠7):TkOk z y.1/\TL z y.2:=by
 obtain⟨rfl,h2⟩:=takeK_inv h
 exact⟨hL.ok,hL.tail (by rw[h2];exact hk)⟩
theorem nxt_inv {c:Int}{L:List Tk}{t:Tk}(h:nxt c L=.ok t):t=hdT L:=by
 unfold nxt at h
 split at h
 ·cases h
 ·cases h;rfl
theorem unit_size {z:Nat}{c:Int}{L:List Tk}{u:ByteArray×List Tk}(hL:TL z L)(h:unitP c L=.ok u):u.1.size<=z:=by
 obtain⟨t,h1,h2⟩:=bnd_inv h
 obtain rfl:=nxt_inv h1
 split at h2
 ·cases h2;exact hL.ok.x
 ·cases h2;exact Nat.zero_le _
theorem at64 {z:Nat}{t:Tk}(hz:z<=9223372036854775807)(h:TkOk z t):In64 (t.at_:Int):=by
 have:=h.a
 unfold In64
 omega
theorem n64 {z:Nat}{t:Tk}(h:TkOk z t):In64 t.n:=by
 have:=h.n
 unfold In64
 omega
theorem zero64:In64 0:=by unfold In64;omega
theorem fit_num {z:Nat}{c:Int}{L:List Tk}{t:Tk×List Tk}{u:ByteArray×List Tk}(hz:z<=9223372036854775807)(hL:TL z L)(hx:takeK c 2 L=.ok t)(hy:unitP c t.2=.ok u):Fit z ⟨1,u.1,t.1.n,0,(t.1.at_:Int),[]⟩:=by
 obtain⟨h1,h2⟩:=takeK_tl hL hx (by decide)
 exact⟨by show In64 1;unfold In64;omega,n64 h1,zero64,at64 hz h1,unit_size h2 hy⟩
set_option maxHeartbeats 1000000 in
theorem numb_c {z rb tb lb:Nat}{c:Int}{L:List Tk}{o:Nat}(hz:z<=9223372036854775807)(w:World)(hr:Rea z w rb tb lb c L o):
 Calls Tryz.prog 109 #[.pointer (some ⟨rb,0,none⟩)] w (Out (VTm w.heap.size z) z w rb tb lb c o (numberP c L)):=by
 have g0:=fld0
 have HT:=hid2 (fun W (k:Below w.heap.size w W)=>take_c2 2 (by decide) W (hr.next k))
 rcases hx:takeK c 2 L with f | t
 ·rw[hx] at HT
  have hP:Hid (∀ w',Turn [rb] w w'->Out (VTm w.heap.size z) z w rb tb lb c o (numberP c L) (.panicked [fltE f]) w'):=fun w' ht=>Out.mk_err (by unfold numberP;rw[hx];rfl) ht
  generalize Out (VTm w.heap.size z) z w rb tb lb c o (numberP c L)=Post at *
  clear hr hx
  go_enter Tryz.func109,Tryz.ntmps109
  go_wp2_with fail
  refine Calls.mono (HT.out _ ((Below.refl _ _).alloc (Nat.le_refl _) _)) ?_
  rintro e w1 ⟨t1,rfl⟩
  go_wp2_with fail
  exact⟨rfl,hP.out _ ((Turn.of_below ((Below.refl _ _).alloc (Nat.le_refl _) _)).trans t1 (fun i hi=>.inl hi))⟩
 ·rw[hx] at HT
  have hL:=hr.lts
  have hok:=hr.tl
  rcases hy:unitP c t.2 with f | u
  ·have hP:Hid (∀ w',Turn [rb] w w'->Out (VTm w.heap.size z) z w rb tb lb c o (numberP c L) (.panicked [fltE f]) w'):=fun w' ht=>Out.mk_err (by unfold numberP;rw[hx,bnd_ok,hy];rfl) ht
   have HU:=hid2 (fun W (h:Rea z W rb tb lb c t.2 o)=>unit_c W h)
   rw[hy] at HU
   generalize Out (VTm w.heap.size z) z w rb tb lb c o (numberP c L)=Post at *
   clear hr hx
   go_enter Tryz.func109,Tryz.ntmps109
   go_wp2_with fail
   refine Calls.mono (HT.out _ ((Below.refl _ _).alloc (Nat.le_refl _) _)) ?_
   rintro e w1 ⟨t1,v,rfl,rfl,r1⟩
   have T1:=(Turn.of_below (S:=[rb]) ((Below.refl _ _).alloc (Nat.le_refl _) _)).trans t1 (fun i hi=>.inl hi)
   have hg:rb≠w.heap.size:=by omega
   have RB0:=(Box.new w zs6 33).turn t1 (by simp;omega)
   have g2:=t1.size
   simp only[World.size_alloc] at g2
   clear t1
   simp only[tkW]
   go_wp2_with fail
   have RB:=hid2 (RB0.next ((Below.refl _ w1).alloc (Nat.le_refl _) (.cells #[.int .i64 t.1.kind,.string t.1.text,.int .i64 t.1.n,.int .i64 (t.1.at_:Nat)] 47)))
   have TB:=hid2 (Box.new w1 (tkC t.1) 47)
   have R:=hid2 (r1.next ((Below.refl _ w1).alloc (Nat.le_refl _) (.cells #[.int .i64 t.1.kind,.string t.1.text,.int .i64 t.1.n,.int .i64 (t.1.at_:Nat)] 47)))
   have T:=hid2 (T1.andBelow ((Below.refl _ w1).alloc (Nat.le_refl _) (.cells #[.int .i64 t.1.kind,.string t.1.text,.int .i64 t.1.n,.int .i64 (t.1.at_:Nat)] 47)))
   clear RB0 T1 r1
   have sz:=World.size_alloc w1 (.cells #[.int .i64 t.1.kind,.string t.1.text,.int .i64 t.1.n,.int .i64 (t.1.at_:Nat)] 47)
   generalize hW:w1.alloc _=W at *
   have k2:=TB.out.cell 2 _ rfl
   have k3:=TB.out.cell 3 _ rfl
   clear hW
   go_region_dies
   all_goals refine Calls.mono (HU.out _ (R.out.next (Below.refl _ _).drew)) ?_
   all_goals rintro e w2 ⟨t2,rfl⟩
   all_goals exact⟨rfl,hP.out _ (T.out.trans ((Turn.of_below (Below.refl _ _).drew).trans t2 (fun i hi=>.inl hi)) (fun i hi=>.inl hi))⟩
  ·have hP:Hid (∀ w' v,Turn [rb] w w'->Rea z w' rb tb lb c u.2 o->v=.agg #[.int .i64 1,.string u.1,.int .i64 t.1.n,.int .i64 0,.int .i64 (t.1.at_:Nat),.slice none 0 0]->Out (VTm w.heap.size z) z w rb tb lb c o (numberP c L) (.returned v) w'):=fun w' v ht hr' hv=>Out.mk_ok (by unfold numberP;rw[hx,bnd_ok,hy];rfl) ht ⟨.slice none 0 0,hv,sitb_leaf (fit_num hz hok hx hy) rfl⟩ hr'
   have HU:=hid2 (fun W (h:Rea z W rb tb lb c t.2 o)=>unit_c W h)
   rw[hy] at HU
   generalize Out (VTm w.heap.size z) z w rb tb lb c o (numberP c L)=Post at *
   clear hr hx
   go_enter Tryz.func109,Tryz.ntmps109
   go_wp2_with fail
   refine Calls.mono (HT.out _ ((Below.refl _ _).alloc (Nat.le_refl _) _)) ?_
   rintro e w1 ⟨t1,v,rfl,rfl,r1⟩
   have T1:=(Turn.of_below (S:=[rb]) ((Below.refl _ _).alloc (Nat.le_refl _) _)).trans t1 (fun i hi=>.inl hi)
   have hg:rb≠w.heap.size:=by omega
   have RB0:=(Box.new w zs6 33).turn t1 (by simp;omega)
   have g2:=t1.size
   simp only[World.size_alloc] at g2
   clear t1
   simp only[tkW]
   go_wp2_with fail
   have RB:=hid2 (RB0.next ((Below.refl _ w1).alloc (Nat.le_refl _) (.cells #[.int .i64 t.1.kind,.string t.1.text,.int .i64 t.1.n,.int .i64 (t.1.at_:Nat)] 47)))
   have TB:=hid2 (Box.new w1 (tkC t.1) 47)
   have R:=hid2 (r1.next ((Below.refl _ w1).alloc (Nat.le_refl _) (.cells #[.int .i64 t.1.kind,.string t.1.text,.int .i64 t.1.n,.int .i64 (t.1.at_:Nat)] 47)))
   have T:=hid2 (T1.andBelow ((Below.refl _ w1).alloc (Nat.le_refl _) (.cells #[.int .i64 t.1.kind,.string t.1.text,.int .i64 t.1.n,.int .i64 (t.1.at_:Nat)] 47)))
   clear RB0 T1 r1
   have sz:=World.size_alloc w1 (.cells #[.int .i64 t.1.kind,.string t.1.text,.int .i64 t.1.n,.int .i64 (t.1.at_:Nat)] 47)
   generalize hW:w1.alloc _=W at *
   have k2:=TB.out.cell 2 _ rfl
   have k3:=TB.out.cell 3 _ rfl
   clear hW
   go_region_held3 (fun w'=>w'.cell? ⟨w1.heap.size,2,none⟩=some (.int .i64 t.1.n)/\w'.cell? ⟨w1.heap.size,3,none⟩=some (.int .i64 (t.1.at_:Nat))) (simp[go_sem, *]) (first|(go_at_call 74;refine Calls.mono (HU.out _ (R.out.next (Below.refl _ _).drew)) ?_;rintro e w2 ⟨t2,v,rfl,rfl,r2⟩;have t3:=(Turn.of_below (S:=[rb]) (Below.refl _ _).drew).trans t2 (fun i hi=>.inl hi);have T2:=hid2 (T.out.trans t3 (fun i hi=>.inl hi));obtain⟨p0,p1,p2,p3,p4,p5,q0,q1,q2,q3,q4,q5⟩:=(RB.out.turn t3 (by simp;omega)).six;have m2:=(TB.out.turn t3 (by simp;omega)).cell 2 _ rfl;have m3:=(TB.out.turn t3 (by simp;omega)).cell 3 _ rfl;have R2:=hid2 r2;clear t3 t2 r2))
   all_goals go_wp2_with fail
   all_goals refine bodyPost_ret (v:=.agg #[.int .i64 1,.string u.1,.int .i64 t.1.n,.int .i64 0,.int .i64 (t.1.at_:Nat),.slice none 0 0]) (by simp[results,Tryz.results109,go_sem, *]) rfl (hP.out _ _ ?_ ?_ rfl)
   all_goals first
    | exact T2.out.trans (turn_six _ _ _ _ _ _ _ _) (fun i hi=>.inr (by simp at hi;omega))
    | exact Rea.turn1 R2.out (turn_six _ _ _ _ _ _ _ _) hL
def ExC (z rb tb lb:Nat)(c:Int)(o fn:Nat)(p:Ps):Prop:=∀ L w,Rea z w rb tb lb c L o->Calls Tryz.prog fn #[.pointer (some ⟨rb,0,none⟩)] w (Out (VTm w.heap.size z) z w rb tb lb c o (p L))
structure InC (z rb tb lb:Nat)(c:Int)(o:Nat)(X:Option Ps):Prop where
 no:X=none->o=64
 yes:∀ E,X=some E->o≠64/\ExC z rb tb lb c (o+1) 21 E/\Dec E
theorem beg_err {x:ByteArray}{z:Nat}{w:World}{rb tb lb:Nat}{c:Int}{o:Nat}{L:List Tk}{e:Ending}{w':World}{f:Flt}(hx:mustS c x L=.error f)(h:BegP x z w rb tb lb c o L e w'):e=.panicked [fltE f]/\Turn [rb] w w':=by
 unfold BegP at h
 rw[hx] at h
 exact⟨h.2,h.1⟩
theorem beg_deep {x:ByteArray}{z:Nat}{w:World}{rb tb lb:Nat}{c:Int}{o:Nat}{L:List Tk}{e:Ending}{w':World}{y:Nat×List Tk}(hx:mustS c x L=.ok y)(ho:o=64)(h:BegP x z w rb tb lb c o L e w'):e=.panicked [fltE (y.1,15)]/\Turn [rb] w w':=by
 unfold BegP at h
 rw[hx] at h
 have h2:(if o=64 then _ else _):=h.2
 rw[if_pos ho] at h2
 exact⟨h2,h.1⟩
theorem beg_ok {x:ByteArray}{z:Nat}{w:World}{rb tb lb:Nat}{c:Int}{o:Nat}{L:List Tk}{e:Ending}{w':World}{y:Nat×List Tk}(hx:mustS c x L=.ok y)(ho:o≠64)(h:BegP x z w rb tb lb c o L e w'):e=.returned (.tuple #[])/\Turn [rb] w w'/\Rea z w' rb tb lb c y.2 (o+1):=by
 unfold BegP at h
 rw[hx] at h
 have h2:(if o=64 then _ else _):=h.2
 rw[if_neg ho] at h2
 exact⟨h2.1,h.1,h2.2⟩
theorem tn {a b d:World}{rb:Nat}(h:Turn [rb] a b)(k:Turn [rb] b d):Turn [rb] a d:=h.trans k (fun _ hi=>.inl hi)
theorem tnA {a b:World}{rb:Nat}{ob:Obj}(h:Turn [rb] (a.alloc ob) b):Turn [rb] a b:=(Turn.of_below ((Below.refl _ _).alloc (Nat.le_refl _) _)).trans h (fun _ hi=>.inl hi)
theorem tnO {a b:World}{rb:Nat}{ob:Obj}(h:Turn [rb] a b):Turn [rb] a (b.alloc ob):=h.andBelow ((Below.refl _ _).alloc (Nat.le_refl _) _)
theorem Box.onO {b:World}{g:Nat}{vs:List Value}{ob:Obj}(h:Box b g vs):Box (b.alloc ob) g vs:=h.next ((Below.refl _ _).alloc (Nat.le_refl _) _)
theorem Rea.onO {z:Nat}{w:World}{rb tb lb:Nat}{c:Int}{L:List Tk}{o:Nat}{ob:Obj}(h:Rea z w rb tb lb c L o):Rea z (w.alloc ob) rb tb lb c L o:=h.next ((Below.refl _ _).alloc (Nat.le_refl _) _)
theorem k64 {k:Int}(h1:0<=k)(h2:k<=100):In64 k:=by unfold In64;omega
theorem fit_of {z:Nat}(k:Int)(x:ByteArray)(n m:Int)(a:Nat)(ps:List Tm)(hz:z<=9223372036854775807)(h1:0<=k)(h2:k<=100)(hx:x.size<=z)(hn:In64 n)(hm:In64 m)(ha:a<=z):Fit z ⟨k,x,n,m,(a:Int),ps⟩:=
 ⟨k64 h1 h2,hn,hm,by show In64 (a:Int);unfold In64;omega,hx⟩
set_option maxHeartbeats 4000000 in
set_option maxRecDepth 20000 in
theorem cron_c {z rb tb lb:Nat}{c:Int}{L:List Tk}{o:Nat}(hz:z<=9223372036854775807){X:Option Ps}(HX:InC z rb tb lb c o X){t0:Tk}(hx:nxt c L=.ok t0)(hm:isT k_cron t0=true)(w:World)(hr:Rea z w rb tb lb c L o):
 Calls Tryz.prog 128 #[.pointer (some ⟨rb,0,none⟩)] w (Out (VTm w.heap.size z) z w rb tb lb c o (cronP c X t0.at_ L.tail)):=by
 obtain⟨pr,hpr⟩:∃ pr,Hid (pr=cronP c X t0.at_ L.tail):=⟨_,rfl⟩
 rw[<-hpr.out]
 have hE:Hid (∀ f w',pr=.error f->Turn [rb] w w'->Out (VTm w.heap.size z) z w rb tb lb c o pr (.panicked [fltE f]) w'):=fun f w' h ht=>Out.mk_err h ht
 have hO:Hid (∀ t L' w' v u,pr=.ok (t,L')->Turn [rb] w w'->v=tmV t u->SitB w.heap.size z w' t u->Rea z w' rb tb lb c L' o->Out (VTm w.heap.size z) z w rb tb lb c o pr (.returned v) w'):=fun t L' w' v u h ht hv hs hr'=>Out.mk_ok h ht ⟨u,hv,hs⟩ hr'
 generalize Out (VTm w.heap.size z) z w rb tb lb c o pr=Post at *
 have hL:=hr.lts
 have hne:w.heap.size∉[rb]:=by simp;omega
 have hok:=hr.tl.ok
 rw[<-nxt_inv hx] at hok
 have hm1:=mustS_of hx hm
 have g1:=fld1
 have Z0:=Box.new w zs6 33
 go_enter Tryz.func128,Tryz.ntmps128
 go_wp2_with fail
 have T0:=tnO (ob:=.cells (zs6).toArray 33) (Turn.refl [rb] w)
 have r0:=hr.onO (ob:=.cells (zs6).toArray 33)
 have Rs0:=Z0
 have zsz:w.heap.size<(w.alloc (.cells (zs6).toArray 33)).heap.size:=by simp
 clear Z0
 generalize hW0:w.alloc _=w0 at *
 clear hW0
 clear hr
 refine Calls.mono (must_c k_cron _ r0) ?_
 rintro e w1 h1
 obtain⟨t1,_,rfl,rfl,r1⟩:=Out.of_ok hm1 h1
 have Rs1:=Rs0.turn t1 hne
 have T1:=tn T0 t1
 have s1:=t1.size
 clear Rs0 T0 r0 h1 t1
 go_wp2_with fail
 refine Calls.mono (term_c _ _ _ _ _ _) ?_
 rintro e w2 ⟨rfl,b2⟩
 have t2:=Turn.of_below (S:=[rb]) b2
 have r2:=r1.next b2
 have Rs2:=Rs1.turn t2 hne
 have T2:=tn T1 t2
 have s2:=t2.size
 clear Rs1 T1 r1 b2 t2
 go_wp2_with fail
 have t3:=tnO (ob:=.cells ([.int .i64 6,.string ⟨#[]⟩,.int .i64 0,.int .i64 0,.int .i64 (t0.at_:Nat),.slice none 0 0]).toArray 33) (Turn.refl [rb] w2)
 have r3:=r2.onO (ob:=.cells ([.int .i64 6,.string ⟨#[]⟩,.int .i64 0,.int .i64 0,.int .i64 (t0.at_:Nat),.slice none 0 0]).toArray 33)
 have Lt3:=Box.new w2 [.int .i64 6,.string ⟨#[]⟩,.int .i64 0,.int .i64 0,.int .i64 (t0.at_:Nat),.slice none 0 0] 33
 have hnLt:w2.heap.size∉[rb]:=by simp;omega
 have hxLt:w2.heap.size<(w2.alloc (.cells ([.int .i64 6,.string ⟨#[]⟩,.int .i64 0,.int .i64 0,.int .i64 (t0.at_:Nat),.slice none 0 0]).toArray 33)).heap.size:=by simp
 have Rs3:=Rs2.turn t3 hne
 have T3:=tn T2 t3
 have s3:=t3.size
 clear Rs2 T2 r2 t3
 generalize hW3:w2.alloc _=w3 at *
 clear hW3
 rw[cronP] at hpr
 refine Calls.mono (begin_c k_lp _ r3) ?_
 rintro e w4 h4
 rcases hy1:mustS c k_lp L.tail with f | y
 ·obtain⟨rfl,t4⟩:=beg_err hy1 h4
  go_wp2_with fail
  exact⟨rfl,hE.out _ _ (by rw[hpr.out,beginP,hy1];rfl) (tn T3 t4)⟩
 rcases X with _ | E
 ·obtain⟨rfl,t4⟩:=beg_deep hy1 (HX.no rfl) h4
  go_wp2_with fail
  exact⟨rfl,hE.out _ _ (by rw[hpr.out,beginP,hy1];rfl) (tn T3 t4)⟩
 obtain⟨rfl,t4,r4⟩:=beg_ok hy1 (HX.yes E rfl).1 h4
 have Rs4:=Rs3.turn t4 hne
 have Lt4:=Lt3.turn t4 hnLt
 have T4:=tn T3 t4
 have s4:=t4.size
 clear Rs3 Lt3 T3 r3 h4 t4
 have hpr1:Hid (pr=bnd (takeK c 4 y.2) fun t=>closeP c k_rp (⟨6,t.1.text,0,0,(t0.at_:Int),[]⟩,t.2)):=by show _=_;rw[hpr.out,beginP,hy1];rfl
 have htl:=r4.tl
 go_wp2_with fail
 refine Calls.mono (take_c2 4 (by decide) _ r4) ?_
 rintro e w5 h5
 rcases hy2:takeK c 4 y.2 with f | q
 ·obtain⟨rfl,t5⟩:=Out.of_err hy2 h5
  go_wp2_with fail
  exact⟨rfl,hE.out _ _ (by rw[hpr1.out,hy2];rfl) (tn T4 t5)⟩
 obtain⟨t5,_,rfl,rfl,r5⟩:=Out.of_ok hy2 h5
 have Rs5:=Rs4.turn t5 hne
 have Lt5:=Lt4.turn t5 hnLt
 have T5:=tn T4 t5
 have s5:=t5.size
 clear Rs4 Lt4 T4 r4 h5 t5
 have hpr2:Hid (pr=closeP c k_rp (⟨6,q.1.text,0,0,(t0.at_:Int),[]⟩,q.2)):=by show _=_;rw[hpr1.out,hy2];rfl
 simp only[tkW]
 obtain⟨x0,x1,x2,x3,x4,x5,xf0,xf1,xf2,xf3,xf4,xf5⟩:=Lt5.six
 have xl:=Lt5.lt
 go_wp2_with fail
 clear x0 x1 x2 x3 x4 x5 xf0 xf1 xf2 xf3 xf4 xf5
 have t6:=turn_set w5 (w2.heap.size) 1 (.string q.1.text)
 have r6:=r5.turn1 t6 (by omega)
 have T6:=T5.andSet ⟨w2.heap.size,1,none⟩ (.string q.1.text) (.inr (by show w.heap.size<=w2.heap.size;omega))
 have s6:=t6.size
 have Rs6:=Rs5.other (q:=w2.heap.size) (j:=1) (v:=.string q.1.text) (by omega)
 have Lt6:=Lt5.set 1 (by simp) (.string q.1.text)
 clear Rs5 Lt5 T5 r5 t6
 generalize hW6:w5.setCell _ _=w6 at *
 clear hW6
 rw[closeP] at hpr2
 refine Calls.mono (close_c k_rp _ r6) ?_
 rintro e w7 h7
 rcases hy3:mustS c k_rp q.2 with f | d
 ·obtain⟨rfl,t7⟩:=Out.of_err hy3 h7
  go_wp2_with fail
  exact⟨rfl,hE.out _ _ (by rw[hpr2.out,hy3];rfl) (tn T6 t7)⟩
 obtain⟨t7,_,rfl,rfl,r7⟩:=Out.of_ok hy3 h7
 have Rs7:=Rs6.turn t7 hne
 have Lt7:=Lt6.turn t7 hnLt
 have T7:=tn T6 t7
 have s7:=t7.size
 clear Rs6 Lt6 T6 r6 h7 t7
 have hpr3:Hid (pr=.ok (⟨6,q.1.text,0,0,(t0.at_:Int),[]⟩,d.2)):=by show _=_;rw[hpr2.out,hy3];rfl
 obtain⟨p0,p1,p2,p3,p4,p5,pf0,pf1,pf2,pf3,pf4,pf5⟩:=Rs7.six
 have pl:=Rs7.lt
 obtain⟨x0,x1,x2,x3,x4,x5,xf0,xf1,xf2,xf3,xf4,xf5⟩:=Lt7.six
 have xl:=Lt7.lt
 have hg:w2.heap.size≠w.heap.size:=by omega
 go_wp2_with fail
 refine bodyPost_ret (v:=tmV (⟨6,q.1.text,0,0,(t0.at_:Int),[]⟩) (.slice none 0 0)) (by simp[results,Tryz.results128,go_sem, *]) rfl (hO.out (⟨6,q.1.text,0,0,(t0.at_:Int),[]⟩) (d.2) _ _ (.slice none 0 0) (hpr3.out) ?_ rfl ?_ ?_)
 ·exact T7.trans (turn_six _ _ _ _ _ _ _ _) (fun i hi=>.inr (by simp at hi;omega))
 ·exact sitb_leaf (fit_of _ _ _ _ _ _ hz (by decide) (by decide) (takeK_tl htl hy2 (by decide)).1.x zero64 zero64 hok.a) rfl
 ·exact r7.turn1 (turn_six _ _ _ _ _ _ _ _) hL
theorem ba_neL {a:ByteArray}(l:List UInt8)(h:¬ a=⟨l.toArray⟩):(a.toList==l)=false:=by
 have:=ba_ne h
 rw[Lib.toList_data ⟨l.toArray⟩] at this
 exact this
theorem winK_in (x:ByteArray):winK x=0\/(7<=winK x/\winK x<=12):=by
 unfold winK
 repeat' split
 all_goals first|(left;rfl)|(right;exact⟨by decide,by decide⟩)
set_option maxHeartbeats 2000000 in
theorem windowKind_c (x:ByteArray)(w:World):Calls Tryz.prog 146 #[.string x] w fun e w'=>e=.returned (.int .i64 (winK x))/\Below w.heap.size w w':=by
 obtain⟨k,hk⟩:∃ k,Hid (k=winK x):=⟨_,rfl⟩
 rw[<-hk.out]
 have hk2:=hk.out
 unfold winK at hk2
 clear hk
 by_cases h1:x=k_sum
 ·rw[if_pos h1] at hk2
  subst hk2 h1
  go_enter Tryz.func146,Tryz.ntmps146
  go_wp2_with fail
  go_ret
  exact⟨rfl,Below.refl _ _⟩
 rw[if_neg h1] at hk2
 have n1:=ba_neL [115,117,109] h1
 by_cases h2:x=k_avg
 ·rw[if_pos h2] at hk2
  subst hk2 h2
  clear n1
  go_enter Tryz.func146,Tryz.ntmps146
  go_wp2_with fail
  go_ret
  exact⟨rfl,Below.refl _ _⟩
 rw[if_neg h2] at hk2
 have n2:=ba_neL [97,118,103] h2
 by_cases h3:x=k_low
 ·rw[if_pos h3] at hk2
  subst hk2 h3
  clear n1 n2
  go_enter Tryz.func146,Tryz.ntmps146
  go_wp2_with fail
  go_ret
  exact⟨rfl,Below.refl _ _⟩
 rw[if_neg h3] at hk2
 have n3:=ba_neL [108,111,119] h3
 by_cases h4:x=k_high
 ·rw[if_pos h4] at hk2
  subst hk2 h4
  clear n1 n2 n3
  go_enter Tryz.func146,Tryz.ntmps146
  go_wp2_with fail
  go_ret
  exact⟨rfl,Below.refl _ _⟩
 rw[if_neg h4] at hk2
 have n4:=ba_neL [104,105,103,104] h4
 by_cases h5:x=k_count
 ·rw[if_pos h5] at hk2
  subst hk2 h5
  clear n1 n2 n3 n4
  go_enter Tryz.func146,Tryz.ntmps146
  go_wp2_with fail
  go_ret
  exact⟨rfl,Below.refl _ _⟩
 rw[if_neg h5] at hk2
 have n5:=ba_neL [99,111,117,110,116] h5
 by_cases h6:x=k_rank
 ·rw[if_pos h6] at hk2
  subst hk2 h6
  clear n1 n2 n3 n4 n5
  go_enter Tryz.func146,Tryz.ntmps146
  go_wp2_with fail
  go_ret
  exact⟨rfl,Below.refl _ _⟩
 rw[if_neg h6] at hk2
 have n6:=ba_neL [114,97,110,107] h6
 subst hk2
 go_enter Tryz.func146,Tryz.ntmps146
 go_wp2_with fail
 go_ret
 exact⟨rfl,Below.refl _ _⟩
set_option maxHeartbeats 4000000 in
set_option maxRecDepth 20000 in
theorem window_c0 {z rb tb lb:Nat}{c:Int}{L:List Tk}{o:Nat}(hz:z<=9223372036854775807){X:Option Ps}(HX:InC z rb tb lb c o X){t0:Tk}(hx:nxt c L=.ok t0)(hm:isT t0.text t0=true)(kd:Int)(hkd:winK t0.text=kd)(h0:kd≠0)(h12:kd≠12)(w:World)(hr:Rea z w rb tb lb c L o):
 Calls Tryz.prog 129 #[.pointer (some ⟨rb,0,none⟩),.string t0.text] w (Out (VTm w.heap.size z) z w rb tb lb c o (winP c X kd t0.at_ L.tail)):=by
 obtain⟨pr,hpr⟩:∃ pr,Hid (pr=winP c X kd t0.at_ L.tail):=⟨_,rfl⟩
 rw[<-hpr.out]
 have hE:Hid (∀ f w',pr=.error f->Turn [rb] w w'->Out (VTm w.heap.size z) z w rb tb lb c o pr (.panicked [fltE f]) w'):=fun f w' h ht=>Out.mk_err h ht
 have hO:Hid (∀ t L' w' v u,pr=.ok (t,L')->Turn [rb] w w'->v=tmV t u->SitB w.heap.size z w' t u->Rea z w' rb tb lb c L' o->Out (VTm w.heap.size z) z w rb tb lb c o pr (.returned v) w'):=fun t L' w' v u h ht hv hs hr'=>Out.mk_ok h ht ⟨u,hv,hs⟩ hr'
 generalize Out (VTm w.heap.size z) z w rb tb lb c o pr=Post at *
 have hL:=hr.lts
 have hne:w.heap.size∉[rb]:=by simp;omega
 have hin:=winK_in t0.text
 rw[hkd] at hin
 have hok:=hr.tl.ok
 rw[<-nxt_inv hx] at hok
 have hm1:=mustS_of hx hm
 have g1:=fld1
 have g2:=fld2
 have HK:=fun W=>windowKind_c t0.text W
 rw[hkd] at HK
 have hk0:(kd==0)=false:=by simpa using h0
 have hk12:(kd==12)=false:=by simpa using h12
 have Z0:=Box.new w zs6 33
 go_enter Tryz.func129,Tryz.ntmps129
 go_wp2_with fail
 have T0:=tnO (ob:=.cells (zs6).toArray 33) (Turn.refl [rb] w)
 have r0:=hr.onO (ob:=.cells (zs6).toArray 33)
 have Rs0:=Z0
 have zsz:w.heap.size<(w.alloc (.cells (zs6).toArray 33)).heap.size:=by simp
 clear Z0
 generalize hW0:w.alloc _=w0 at *
 clear hW0
 clear hr
 refine Calls.mono (HK _) ?_
 rintro e w1 ⟨rfl,b1⟩
 have t1:=Turn.of_below (S:=[rb]) b1
 have r1:=r0.next b1
 have Rs1:=Rs0.turn t1 hne
 have T1:=tn T0 t1
 have s1:=t1.size
 clear Rs0 T0 r0 b1 t1
 go_wp2_with fail
 refine Calls.mono (must_c t0.text _ r1) ?_
 rintro e w2 h2
 obtain⟨t2,_,rfl,rfl,r2⟩:=Out.of_ok hm1 h2
 have Rs2:=Rs1.turn t2 hne
 have T2:=tn T1 t2
 have s2:=t2.size
 clear Rs1 T1 r1 h2 t2
 go_wp2_with fail
 refine Calls.mono (term_c _ _ _ _ _ _) ?_
 rintro e w3 ⟨rfl,b3⟩
 have t3:=Turn.of_below (S:=[rb]) b3
 have r3:=r2.next b3
 have Rs3:=Rs2.turn t3 hne
 have T3:=tn T2 t3
 have s3:=t3.size
 clear Rs2 T2 r2 b3 t3
 go_wp2_with fail
 have t4:=tnO (ob:=.cells ([.int .i64 kd,.string ⟨#[]⟩,.int .i64 0,.int .i64 0,.int .i64 (t0.at_:Nat),.slice none 0 0]).toArray 33) (Turn.refl [rb] w3)
 have r4:=r3.onO (ob:=.cells ([.int .i64 kd,.string ⟨#[]⟩,.int .i64 0,.int .i64 0,.int .i64 (t0.at_:Nat),.slice none 0 0]).toArray 33)
 have Lt4:=Box.new w3 [.int .i64 kd,.string ⟨#[]⟩,.int .i64 0,.int .i64 0,.int .i64 (t0.at_:Nat),.slice none 0 0] 33
 have hnLt:w3.heap.size∉[rb]:=by simp;omega
 have hxLt:w3.heap.size<(w3.alloc (.cells ([.int .i64 kd,.string ⟨#[]⟩,.int .i64 0,.int .i64 0,.int .i64 (t0.at_:Nat),.slice none 0 0]).toArray 33)).heap.size:=by simp
 have Rs4:=Rs3.turn t4 hne
 have T4:=tn T3 t4
 have s4:=t4.size
 clear Rs3 T3 r3 t4
 generalize hW4:w3.alloc _=w4 at *
 clear hW4
 rw[winP] at hpr
 simp only[if_neg h12] at hpr
 refine Calls.mono (begin_c k_lp _ r4) ?_
 rintro e w5 h5
 rcases hy1:mustS c k_lp L.tail with f | y
 ·obtain⟨rfl,t5⟩:=beg_err hy1 h5
  go_wp2_with fail
  exact⟨rfl,hE.out _ _ (by rw[hpr.out,beginP,hy1];rfl) (tn T4 t5)⟩
 rcases X with _ | E
 ·obtain⟨rfl,t5⟩:=beg_deep hy1 (HX.no rfl) h5
  go_wp2_with fail
  exact⟨rfl,hE.out _ _ (by rw[hpr.out,beginP,hy1];rfl) (tn T4 t5)⟩
 obtain⟨rfl,t5,r5⟩:=beg_ok hy1 (HX.yes E rfl).1 h5
 have Rs5:=Rs4.turn t5 hne
 have Lt5:=Lt4.turn t5 hnLt
 have T5:=tn T4 t5
 have s5:=t5.size
 clear Rs4 Lt4 T4 r4 h5 t5
 have hpr1:Hid (pr=bnd (takeK c 1 y.2) fun t=>bnd (mustS c k_com t.2) fun b=>bnd (takeK c 3 b.2) fun d=>closeP c k_rp (⟨kd,t.1.text,d.1.n,0,(t0.at_:Int),[]⟩,d.2)):=by show _=_;rw[hpr.out,beginP,hy1];rfl
 have htl1:=r5.tl
 go_wp2_with fail
 refine Calls.mono (take_c2 1 (by decide) _ r5) ?_
 rintro e w6 h6
 rcases hy2:takeK c 1 y.2 with f | q
 ·obtain⟨rfl,t6⟩:=Out.of_err hy2 h6
  go_wp2_with fail
  exact⟨rfl,hE.out _ _ (by rw[hpr1.out,hy2];rfl) (tn T5 t6)⟩
 obtain⟨t6,_,rfl,rfl,r6⟩:=Out.of_ok hy2 h6
 have Rs6:=Rs5.turn t6 hne
 have Lt6:=Lt5.turn t6 hnLt
 have T6:=tn T5 t6
 have s6:=t6.size
 clear Rs5 Lt5 T5 r5 h6 t6
 have hpr2:Hid (pr=bnd (mustS c k_com q.2) fun b=>bnd (takeK c 3 b.2) fun d=>closeP c k_rp (⟨kd,q.1.text,d.1.n,0,(t0.at_:Int),[]⟩,d.2)):=by show _=_;rw[hpr1.out,hy2];rfl
 simp only[tkW]
 obtain⟨x0,x1,x2,x3,x4,x5,xf0,xf1,xf2,xf3,xf4,xf5⟩:=Lt6.six
 have xl:=Lt6.lt
 go_wp2_with fail
 clear x0 x1 x2 x3 x4 x5 xf0 xf1 xf2 xf3 xf4 xf5
 have t7:=turn_set w6 (w3.heap.size) 1 (.string q.1.text)
 have r7:=r6.turn1 t7 (by omega)
 have T7:=T6.andSet ⟨w3.heap.size,1,none⟩ (.string q.1.text) (.inr (by show w.heap.size<=w3.heap.size;omega))
 have s7:=t7.size
 have Rs7:=Rs6.other (q:=w3.heap.size) (j:=1) (v:=.string q.1.text) (by omega)
 have Lt7:=Lt6.set 1 (by simp) (.string q.1.text)
 clear Rs6 Lt6 T6 r6 t7
 generalize hW7:w6.setCell _ _=w7 at *
 clear hW7
 refine Calls.mono (must_c k_com _ r7) ?_
 rintro e w8 h8
 rcases hy3:mustS c k_com q.2 with f | b
 ·obtain⟨rfl,t8⟩:=Out.of_err hy3 h8
  go_wp2_with fail
  exact⟨rfl,hE.out _ _ (by rw[hpr2.out,hy3];rfl) (tn T7 t8)⟩
 obtain⟨t8,_,rfl,rfl,r8⟩:=Out.of_ok hy3 h8
 have Rs8:=Rs7.turn t8 hne
 have Lt8:=Lt7.turn t8 hnLt
 have T8:=tn T7 t8
 have s8:=t8.size
 clear Rs7 Lt7 T7 r7 h8 t8
 have hpr3:Hid (pr=bnd (takeK c 3 b.2) fun d=>closeP c k_rp (⟨kd,q.1.text,d.1.n,0,(t0.at_:Int),[]⟩,d.2)):=by show _=_;rw[hpr2.out,hy3];rfl
 have htl2:=r8.tl
 go_wp2_with fail
 refine Calls.mono (take_c2 3 (by decide) _ r8) ?_
 rintro e w9 h9
 rcases hy4:takeK c 3 b.2 with f | d
 ·obtain⟨rfl,t9⟩:=Out.of_err hy4 h9
  go_wp2_with fail
  exact⟨rfl,hE.out _ _ (by rw[hpr3.out,hy4];rfl) (tn T8 t9)⟩
 obtain⟨t9,_,rfl,rfl,r9⟩:=Out.of_ok hy4 h9
 have Rs9:=Rs8.turn t9 hne
 have Lt9:=Lt8.turn t9 hnLt
 have T9:=tn T8 t9
 have s9:=t9.size
 clear Rs8 Lt8 T8 r8 h9 t9
 have hpr4:Hid (pr=closeP c k_rp (⟨kd,q.1.text,d.1.n,0,(t0.at_:Int),[]⟩,d.2)):=by show _=_;rw[hpr3.out,hy4];rfl
 simp only[tkW]
 obtain⟨x0,x1,x2,x3,x4,x5,xf0,xf1,xf2,xf3,xf4,xf5⟩:=Lt9.six
 have xl:=Lt9.lt
 go_wp2_with fail
 clear x0 x1 x2 x3 x4 x5 xf0 xf1 xf2 xf3 xf4 xf5
 have t10:=turn_set w9 (w3.heap.size) 2 (.int .i64 d.1.n)
 have r10:=r9.turn1 t10 (by omega)
 have T10:=T9.andSet ⟨w3.heap.size,2,none⟩ (.int .i64 d.1.n) (.inr (by show w.heap.size<=w3.heap.size;omega))
 have s10:=t10.size
 have Rs10:=Rs9.other (q:=w3.heap.size) (j:=2) (v:=.int .i64 d.1.n) (by omega)
 have Lt10:=Lt9.set 2 (by simp) (.int .i64 d.1.n)
 clear Rs9 Lt9 T9 r9 t10
 generalize hW10:w9.setCell _ _=w10 at *
 clear hW10
 rw[closeP] at hpr4
 refine Calls.mono (close_c k_rp _ r10) ?_
 rintro e w11 h11
 rcases hy5:mustS c k_rp d.2 with f | zz
 ·obtain⟨rfl,t11⟩:=Out.of_err hy5 h11
  go_wp2_with fail
  exact⟨rfl,hE.out _ _ (by rw[hpr4.out,hy5];rfl) (tn T10 t11)⟩
 obtain⟨t11,_,rfl,rfl,r11⟩:=Out.of_ok hy5 h11
 have Rs11:=Rs10.turn t11 hne
 have Lt11:=Lt10.turn t11 hnLt
 have T11:=tn T10 t11
 have s11:=t11.size
 clear Rs10 Lt10 T10 r10 h11 t11
 have hpr5:Hid (pr=.ok (⟨kd,q.1.text,d.1.n,0,(t0.at_:Int),[]⟩,zz.2)):=by show _=_;rw[hpr4.out,hy5];rfl
 obtain⟨p0,p1,p2,p3,p4,p5,pf0,pf1,pf2,pf3,pf4,pf5⟩:=Rs11.six
 have pl:=Rs11.lt
 obtain⟨x0,x1,x2,x3,x4,x5,xf0,xf1,xf2,xf3,xf4,xf5⟩:=Lt11.six
 have xl:=Lt11.lt
 have hg:w3.heap.size≠w.heap.size:=by omega
 go_wp2_with fail
 refine bodyPost_ret (v:=tmV (⟨kd,q.1.text,d.1.n,0,(t0.at_:Int),[]⟩) (.slice none 0 0)) (by simp[results,Tryz.results129,go_sem, *]) rfl (hO.out (⟨kd,q.1.text,d.1.n,0,(t0.at_:Int),[]⟩) (zz.2) _ _ (.slice none 0 0) (hpr5.out) ?_ rfl ?_ ?_)
 ·exact T11.trans (turn_six _ _ _ _ _ _ _ _) (fun i hi=>.inr (by simp at hi;omega))
 ·exact sitb_leaf (fit_of _ _ _ _ _ _ hz (by omega) (by omega) (takeK_tl htl1 hy2 (by decide)).1.x (n64 (takeK_tl htl2 hy4 (by decide)).1) zero64 hok.a) rfl
 ·exact r11.turn1 (turn_six _ _ _ _ _ _ _ _) hL
set_option maxHeartbeats 4000000 in
set_option maxRecDepth 20000 in
theorem window_c1 {z rb tb lb:Nat}{c:Int}{L:List Tk}{o:Nat}(hz:z<=9223372036854775807){X:Option Ps}(HX:InC z rb tb lb c o X){t0:Tk}(hx:nxt c L=.ok t0)(hm:isT t0.text t0=true)(kd:Int)(hkd:winK t0.text=kd)(h0:kd≠0)(h12:kd=12)(w:World)(hr:Rea z w rb tb lb c L o):
 Calls Tryz.prog 129 #[.pointer (some ⟨rb,0,none⟩),.string t0.text] w (Out (VTm w.heap.size z) z w rb tb lb c o (winP c X kd t0.at_ L.tail)):=by
 obtain⟨pr,hpr⟩:∃ pr,Hid (pr=winP c X kd t0.at_ L.tail):=⟨_,rfl⟩
 rw[<-hpr.out]
 have hE:Hid (∀ f w',pr=.error f->Turn [rb] w w'->Out (VTm w.heap.size z) z w rb tb lb c o pr (.panicked [fltE f]) w'):=fun f w' h ht=>Out.mk_err h ht
 have hO:Hid (∀ t L' w' v u,pr=.ok (t,L')->Turn [rb] w w'->v=tmV t u->SitB w.heap.size z w' t u->Rea z w' rb tb lb c L' o->Out (VTm w.heap.size z) z w rb tb lb c o pr (.returned v) w'):=fun t L' w' v u h ht hv hs hr'=>Out.mk_ok h ht ⟨u,hv,hs⟩ hr'
 generalize Out (VTm w.heap.size z) z w rb tb lb c o pr=Post at *
 have hL:=hr.lts
 have hne:w.heap.size∉[rb]:=by simp;omega
 have hin:=winK_in t0.text
 rw[hkd] at hin
 have hok:=hr.tl.ok
 rw[<-nxt_inv hx] at hok
 have hm1:=mustS_of hx hm
 have g1:=fld1
 have g2:=fld2
 have HK:=fun W=>windowKind_c t0.text W
 rw[hkd] at HK
 have hk0:(kd==0)=false:=by simpa using h0
 have Z0:=Box.new w zs6 33
 go_enter Tryz.func129,Tryz.ntmps129
 go_wp2_with fail
 have T0:=tnO (ob:=.cells (zs6).toArray 33) (Turn.refl [rb] w)
 have r0:=hr.onO (ob:=.cells (zs6).toArray 33)
 have Rs0:=Z0
 have zsz:w.heap.size<(w.alloc (.cells (zs6).toArray 33)).heap.size:=by simp
 clear Z0
 generalize hW0:w.alloc _=w0 at *
 clear hW0
 clear hr
 refine Calls.mono (HK _) ?_
 rintro e w1 ⟨rfl,b1⟩
 have t1:=Turn.of_below (S:=[rb]) b1
 have r1:=r0.next b1
 have Rs1:=Rs0.turn t1 hne
 have T1:=tn T0 t1
 have s1:=t1.size
 clear Rs0 T0 r0 b1 t1
 go_wp2_with fail
 refine Calls.mono (must_c t0.text _ r1) ?_
 rintro e w2 h2
 obtain⟨t2,_,rfl,rfl,r2⟩:=Out.of_ok hm1 h2
 have Rs2:=Rs1.turn t2 hne
 have T2:=tn T1 t2
 have s2:=t2.size
 clear Rs1 T1 r1 h2 t2
 go_wp2_with fail
 refine Calls.mono (term_c _ _ _ _ _ _) ?_
 rintro e w3 ⟨rfl,b3⟩
 have t3:=Turn.of_below (S:=[rb]) b3
 have r3:=r2.next b3
 have Rs3:=Rs2.turn t3 hne
 have T3:=tn T2 t3
 have s3:=t3.size
 clear Rs2 T2 r2 b3 t3
 go_wp2_with fail
 subst h12
 have t4:=tnO (ob:=.cells ([.int .i64 12,.string ⟨#[]⟩,.int .i64 0,.int .i64 0,.int .i64 (t0.at_:Nat),.slice none 0 0]).toArray 33) (Turn.refl [rb] w3)
 have r4:=r3.onO (ob:=.cells ([.int .i64 12,.string ⟨#[]⟩,.int .i64 0,.int .i64 0,.int .i64 (t0.at_:Nat),.slice none 0 0]).toArray 33)
 have Lt4:=Box.new w3 [.int .i64 12,.string ⟨#[]⟩,.int .i64 0,.int .i64 0,.int .i64 (t0.at_:Nat),.slice none 0 0] 33
 have hnLt:w3.heap.size∉[rb]:=by simp;omega
 have hxLt:w3.heap.size<(w3.alloc (.cells ([.int .i64 12,.string ⟨#[]⟩,.int .i64 0,.int .i64 0,.int .i64 (t0.at_:Nat),.slice none 0 0]).toArray 33)).heap.size:=by simp
 have Rs4:=Rs3.turn t4 hne
 have T4:=tn T3 t4
 have s4:=t4.size
 clear Rs3 T3 r3 t4
 generalize hW4:w3.alloc _=w4 at *
 clear hW4
 rw[winP] at hpr
 simp only[if_true] at hpr
 refine Calls.mono (begin_c k_lp _ r4) ?_
 rintro e w5 h5
 rcases hy1:mustS c k_lp L.tail with f | y
 ·obtain⟨rfl,t5⟩:=beg_err hy1 h5
  go_wp2_with fail
  exact⟨rfl,hE.out _ _ (by rw[hpr.out,beginP,hy1];rfl) (tn T4 t5)⟩
 rcases X with _ | E
 ·obtain⟨rfl,t5⟩:=beg_deep hy1 (HX.no rfl) h5
  go_wp2_with fail
  exact⟨rfl,hE.out _ _ (by rw[hpr.out,beginP,hy1];rfl) (tn T4 t5)⟩
 obtain⟨rfl,t5,r5⟩:=beg_ok hy1 (HX.yes E rfl).1 h5
 have Rs5:=Rs4.turn t5 hne
 have Lt5:=Lt4.turn t5 hnLt
 have T5:=tn T4 t5
 have s5:=t5.size
 clear Rs4 Lt4 T4 r4 h5 t5
 have hpr1:Hid (pr=bnd (takeK c 1 y.2) fun t=>bnd (mustS c k_com t.2) fun b=>bnd (takeK c 3 b.2) fun d=>bnd (mustS c k_com d.2) fun e=>bnd (takeK c 2 e.2) fun m=>closeP c k_rp (⟨12,t.1.text,d.1.n,m.1.n,(t0.at_:Int),[]⟩,m.2)):=by show _=_;rw[hpr.out,beginP,hy1];rfl
 have htl1:=r5.tl
 go_wp2_with fail
 refine Calls.mono (take_c2 1 (by decide) _ r5) ?_
 rintro e w6 h6
 rcases hy2:takeK c 1 y.2 with f | q
 ·obtain⟨rfl,t6⟩:=Out.of_err hy2 h6
  go_wp2_with fail
  exact⟨rfl,hE.out _ _ (by rw[hpr1.out,hy2];rfl) (tn T5 t6)⟩
 obtain⟨t6,_,rfl,rfl,r6⟩:=Out.of_ok hy2 h6
 have Rs6:=Rs5.turn t6 hne
 have Lt6:=Lt5.turn t6 hnLt
 have T6:=tn T5 t6
 have s6:=t6.size
 clear Rs5 Lt5 T5 r5 h6 t6
 have hpr2:Hid (pr=bnd (mustS c k_com q.2) fun b=>bnd (takeK c 3 b.2) fun d=>bnd (mustS c k_com d.2) fun e=>bnd (takeK c 2 e.2) fun m=>closeP c k_rp (⟨12,q.1.text,d.1.n,m.1.n,(t0.at_:Int),[]⟩,m.2)):=by show _=_;rw[hpr1.out,hy2];rfl
 simp only[tkW]
 obtain⟨x0,x1,x2,x3,x4,x5,xf0,xf1,xf2,xf3,xf4,xf5⟩:=Lt6.six
 have xl:=Lt6.lt
 go_wp2_with fail
 clear x0 x1 x2 x3 x4 x5 xf0 xf1 xf2 xf3 xf4 xf5
 have t7:=turn_set w6 (w3.heap.size) 1 (.string q.1.text)
 have r7:=r6.turn1 t7 (by omega)
 have T7:=T6.andSet ⟨w3.heap.size,1,none⟩ (.string q.1.text) (.inr (by show w.heap.size<=w3.heap.size;omega))
 have s7:=t7.size
 have Rs7:=Rs6.other (q:=w3.heap.size) (j:=1) (v:=.string q.1.text) (by omega)
 have Lt7:=Lt6.set 1 (by simp) (.string q.1.text)
 clear Rs6 Lt6 T6 r6 t7
 generalize hW7:w6.setCell _ _=w7 at *
 clear hW7
 refine Calls.mono (must_c k_com _ r7) ?_
 rintro e w8 h8
 rcases hy3:mustS c k_com q.2 with f | b
 ·obtain⟨rfl,t8⟩:=Out.of_err hy3 h8
  go_wp2_with fail
  exact⟨rfl,hE.out _ _ (by rw[hpr2.out,hy3];rfl) (tn T7 t8)⟩
 obtain⟨t8,_,rfl,rfl,r8⟩:=Out.of_ok hy3 h8
 have Rs8:=Rs7.turn t8 hne
 have Lt8:=Lt7.turn t8 hnLt
 have T8:=tn T7 t8
 have s8:=t8.size
 clear Rs7 Lt7 T7 r7 h8 t8
 have hpr3:Hid (pr=bnd (takeK c 3 b.2) fun d=>bnd (mustS c k_com d.2) fun e=>bnd (takeK c 2 e.2) fun m=>closeP c k_rp (⟨12,q.1.text,d.1.n,m.1.n,(t0.at_:Int),[]⟩,m.2)):=by show _=_;rw[hpr2.out,hy3];rfl
 have htl2:=r8.tl
 go_wp2_with fail
 refine Calls.mono (take_c2 3 (by decide) _ r8) ?_
 rintro e w9 h9
 rcases hy4:takeK c 3 b.2 with f | d
 ·obtain⟨rfl,t9⟩:=Out.of_err hy4 h9
  go_wp2_with fail
  exact⟨rfl,hE.out _ _ (by rw[hpr3.out,hy4];rfl) (tn T8 t9)⟩
 obtain⟨t9,_,rfl,rfl,r9⟩:=Out.of_ok hy4 h9
 have Rs9:=Rs8.turn t9 hne
 have Lt9:=Lt8.turn t9 hnLt
 have T9:=tn T8 t9
 have s9:=t9.size
 clear Rs8 Lt8 T8 r8 h9 t9
 have hpr4:Hid (pr=bnd (mustS c k_com d.2) fun e=>bnd (takeK c 2 e.2) fun m=>closeP c k_rp (⟨12,q.1.text,d.1.n,m.1.n,(t0.at_:Int),[]⟩,m.2)):=by show _=_;rw[hpr3.out,hy4];rfl
 simp only[tkW]
 obtain⟨x0,x1,x2,x3,x4,x5,xf0,xf1,xf2,xf3,xf4,xf5⟩:=Lt9.six
 have xl:=Lt9.lt
 go_wp2_with fail
 clear x0 x1 x2 x3 x4 x5 xf0 xf1 xf2 xf3 xf4 xf5
 have t10:=turn_set w9 (w3.heap.size) 2 (.int .i64 d.1.n)
 have r10:=r9.turn1 t10 (by omega)
 have T10:=T9.andSet ⟨w3.heap.size,2,none⟩ (.int .i64 d.1.n) (.inr (by show w.heap.size<=w3.heap.size;omega))
 have s10:=t10.size
 have Rs10:=Rs9.other (q:=w3.heap.size) (j:=2) (v:=.int .i64 d.1.n) (by omega)
 have Lt10:=Lt9.set 2 (by simp) (.int .i64 d.1.n)
 clear Rs9 Lt9 T9 r9 t10
 generalize hW10:w9.setCell _ _=w10 at *
 clear hW10
 refine Calls.mono (must_c k_com _ r10) ?_
 rintro e w11 h11
 rcases hy5:mustS c k_com d.2 with f | e1
 ·obtain⟨rfl,t11⟩:=Out.of_err hy5 h11
  go_wp2_with fail
  exact⟨rfl,hE.out _ _ (by rw[hpr4.out,hy5];rfl) (tn T10 t11)⟩
 obtain⟨t11,_,rfl,rfl,r11⟩:=Out.of_ok hy5 h11
 have Rs11:=Rs10.turn t11 hne
 have Lt11:=Lt10.turn t11 hnLt
 have T11:=tn T10 t11
 have s11:=t11.size
 clear Rs10 Lt10 T10 r10 h11 t11
 have hpr5:Hid (pr=bnd (takeK c 2 e1.2) fun m=>closeP c k_rp (⟨12,q.1.text,d.1.n,m.1.n,(t0.at_:Int),[]⟩,m.2)):=by show _=_;rw[hpr4.out,hy5];rfl
 have htl3:=r11.tl
 go_wp2_with fail
 refine Calls.mono (take_c2 2 (by decide) _ r11) ?_
 rintro e w12 h12
 rcases hy6:takeK c 2 e1.2 with f | m
 ·obtain⟨rfl,t12⟩:=Out.of_err hy6 h12
  go_wp2_with fail
  exact⟨rfl,hE.out _ _ (by rw[hpr5.out,hy6];rfl) (tn T11 t12)⟩
 obtain⟨t12,_,rfl,rfl,r12⟩:=Out.of_ok hy6 h12
 have Rs12:=Rs11.turn t12 hne
 have Lt12:=Lt11.turn t12 hnLt
 have T12:=tn T11 t12
 have s12:=t12.size
 clear Rs11 Lt11 T11 r11 h12 t12
 have hpr6:Hid (pr=closeP c k_rp (⟨12,q.1.text,d.1.n,m.1.n,(t0.at_:Int),[]⟩,m.2)):=by show _=_;rw[hpr5.out,hy6];rfl
 simp only[tkW]
 obtain⟨x0,x1,x2,x3,x4,x5,xf0,xf1,xf2,xf3,xf4,xf5⟩:=Lt12.six
 have xl:=Lt12.lt
 go_wp2_with fail
 clear x0 x1 x2 x3 x4 x5 xf0 xf1 xf2 xf3 xf4 xf5
 have t13:=turn_set w12 (w3.heap.size) 3 (.int .i64 m.1.n)
 have r13:=r12.turn1 t13 (by omega)
 have T13:=T12.andSet ⟨w3.heap.size,3,none⟩ (.int .i64 m.1.n) (.inr (by show w.heap.size<=w3.heap.size;omega))
 have s13:=t13.size
 have Rs13:=Rs12.other (q:=w3.heap.size) (j:=3) (v:=.int .i64 m.1.n) (by omega)
 have Lt13:=Lt12.set 3 (by simp) (.int .i64 m.1.n)
 clear Rs12 Lt12 T12 r12 t13
 generalize hW13:w12.setCell _ _=w13 at *
 clear hW13
 rw[closeP] at hpr6
 refine Calls.mono (close_c k_rp _ r13) ?_
 rintro e w14 h14
 rcases hy7:mustS c k_rp m.2 with f | zz
 ·obtain⟨rfl,t14⟩:=Out.of_err hy7 h14
  go_wp2_with fail
  exact⟨rfl,hE.out _ _ (by rw[hpr6.out,hy7];rfl) (tn T13 t14)⟩
 obtain⟨t14,_,rfl,rfl,r14⟩:=Out.of_ok hy7 h14
 have Rs14:=Rs13.turn t14 hne
 have Lt14:=Lt13.turn t14 hnLt
 have T14:=tn T13 t14
 have s14:=t14.size
 clear Rs13 Lt13 T13 r13 h14 t14
 have hpr7:Hid (pr=.ok (⟨12,q.1.text,d.1.n,m.1.n,(t0.at_:Int),[]⟩,zz.2)):=by show _=_;rw[hpr6.out,hy7];rfl
 obtain⟨p0,p1,p2,p3,p4,p5,pf0,pf1,pf2,pf3,pf4,pf5⟩:=Rs14.six
 have pl:=Rs14.lt
 obtain⟨x0,x1,x2,x3,x4,x5,xf0,xf1,xf2,xf3,xf4,xf5⟩:=Lt14.six
 have xl:=Lt14.lt
 have hg:w3.heap.size≠w.heap.size:=by omega
 go_wp2_with fail
 refine bodyPost_ret (v:=tmV (⟨12,q.1.text,d.1.n,m.1.n,(t0.at_:Int),[]⟩) (.slice none 0 0)) (by simp[results,Tryz.results129,go_sem, *]) rfl (hO.out (⟨12,q.1.text,d.1.n,m.1.n,(t0.at_:Int),[]⟩) (zz.2) _ _ (.slice none 0 0) (hpr7.out) ?_ rfl ?_ ?_)
 ·exact T14.trans (turn_six _ _ _ _ _ _ _ _) (fun i hi=>.inr (by simp at hi;omega))
 ·exact sitb_leaf (fit_of _ _ _ _ _ _ hz (by omega) (by omega) (takeK_tl htl1 hy2 (by decide)).1.x (n64 (takeK_tl htl2 hy4 (by decide)).1) (n64 (takeK_tl htl3 hy6 (by decide)).1) hok.a) rfl
 ·exact r14.turn1 (turn_six _ _ _ _ _ _ _ _) hL
set_option maxHeartbeats 1000000 in
theorem window_no {z rb tb lb:Nat}{c:Int}{L:List Tk}{o:Nat}{t0:Tk}(hx:nxt c L=.ok t0)(hkd:winK t0.text=0)(w:World)(hr:Rea z w rb tb lb c L o):
 Calls Tryz.prog 129 #[.pointer (some ⟨rb,0,none⟩),.string t0.text] w fun e w'=>e=.panicked [fltE (t0.at_,16)]/\Below w.heap.size w w':=by
 have HK:=fun W=>windowKind_c t0.text W
 rw[hkd] at HK
 have HU:=hid2 (fun W (k:Below w.heap.size w W)=>unfit_ok hx W (hr.next k))
 clear hr hx
 go_enter Tryz.func129,Tryz.ntmps129
 go_wp2_with fail
 refine Calls.mono (HK _) ?_
 rintro e w1 ⟨rfl,b1⟩
 have b2:Below w.heap.size w w1:=below_on ((Below.refl _ _).alloc (Nat.le_refl _) _) b1 (by simp)
 go_wp2_with fail
 refine Calls.mono (HU.out _ b2) ?_
 rintro e w2 ⟨rfl,b3⟩
 go_wp2_with fail
 exact⟨rfl,rfl,below_on b2 b3 b2.size⟩
theorem ownQ_turn {S:List Nat}{w w':World}{B size:Nat}{e:TypeId}{v:Value}{n:Nat}{xs:List Value}(h:w.ownsRow B e size v n xs)(t:Turn S w w')(hS:∀ k∈S,k<B):w'.ownsRow B e size v n xs:=by
 have hl:=h.lt
 obtain⟨h1,h2⟩:=h
 refine⟨h1,?_⟩
 rcases h2 with h2 | ⟨g,cap,cur,rfl,h3,h4,h5,h6,h7,h8⟩
 ·exact .inl h2
 ·exact .inr ⟨g,cap,cur,rfl,h3,(t.block g (Array.getElem?_eq_some_iff.1 h4).1 (fun hm=>by have:=hS g hm;have:=(hl g rfl).1;omega)).trans h4,h5,h6,h7,h8⟩
def flQ (ts:List (Tm×Value)):List Value:=(ts.map fun p=>tmL p.1 p.2).flatten
theorem flQ_cons (p:Tm×Value)(ts:List (Tm×Value)):flQ (p::ts)=tmL p.1 p.2++flQ ts:=rfl
theorem flQ_append (a b:List (Tm×Value)):flQ (a++b)=flQ a++flQ b:=by simp[flQ]
theorem flQ_len (ts:List (Tm×Value)):(flQ ts).length=ts.length*6:=by
 induction ts with
 | nil=>rfl
 | cons p r ih=>rw[flQ_cons,List.length_append,ih,List.length_cons];simp;omega
theorem flQ_get:∀ (ts:List (Tm×Value)) (i q:Nat),q<6->(hi:i<ts.length)->(flQ ts)[i*6+q]? = (tmL ts[i].1 ts[i].2)[q]?
 | [],i,q,_,hi=>by simp at hi
 | p::r,0,q,hq,hi=>by
   rw[flQ_cons,Nat.zero_mul,Nat.zero_add,List.getElem?_append_left (by simpa using hq)]
   rfl
 | p::r,i+1,q,hq,hi=>by
   rw[flQ_cons,List.getElem?_append_right (by simp;omega)]
   rw[show (i+1)*6+q-(tmL p.1 p.2).length=i*6+q by simp;omega]
   exact flQ_get r i q hq (by simpa using hi)
theorem flQ_one (ts:List (Tm×Value))(h:∀ p,p∈ts->p.2.oneCell'=true):∀ u∈flQ ts,u.oneCell'=true:=by
 intro u hu
 unfold flQ at hu
 obtain⟨l,hl,hm⟩:=List.mem_flatten.1 hu
 obtain⟨p,hp,rfl⟩:=List.mem_map.1 hl
 simp only[List.mem_cons,List.not_mem_nil,or_false] at hm
 rcases hm with rfl | rfl | rfl | rfl | rfl | rfl
 ·rfl
 ·rfl
 ·rfl
 ·rfl
 ·rfl
 ·exact h p hp
structure PaO (B z:Nat)(W:World)(v:Value)(ts:List (Tm×Value)):Prop where
 own:W.ownsRow B 33 6 v ts.length (flQ ts)
 sit:∀ p,p∈ts->SitQ (fun b=>B<=b/\v.ownBlock≠some b) z W p.1 p.2
theorem PaO.turn {S:List Nat}{B z:Nat}{w w':World}{v:Value}{ts:List (Tm×Value)}(h:PaO B z w v ts)(k:Turn S w w')(hS:∀ i∈S,i<B):PaO B z w' v ts:=
 ⟨ownQ_turn h.own k hS,fun p hp=>SitQ.keep k.size (fun b hb hq=>⟨hq,fun _=>turn_cell k hb (fun hm=>by have:=hS b hm;omega)⟩) _ _ (h.sit p hp)⟩
theorem PaO.nil (B z:Nat)(w:World):PaO B z w (.slice none 0 0) []:=⟨⟨rfl,.inl ⟨rfl,rfl⟩⟩,fun _ hp=>by cases hp⟩
theorem PaO.val {B z:Nat}{w:World}{v:Value}{ts:List (Tm×Value)}(h:PaO B z w v ts):∃ a n,v=.slice a ts.length n:=own_val h.own
theorem PaO.sits {B z:Nat}{w:World}{v:Value}{ts:List (Tm×Value)}{t:Tm}(h:PaO B z w v ts)(hf:Fit z t)(hp:t.parts=ts.map Prod.fst):SitB B z w t v:=by
 rw[SitB,sitq_iff,hp]
 refine⟨hf,?_⟩
 obtain⟨h1,h2⟩:=h.own
 rcases h2 with ⟨rfl,h3⟩ | ⟨g,cap,cur,rfl,h3,h4,h5,h6,h7,h8⟩
 ·refine⟨none,0,?_,?_,by decide,.inl ?_⟩
  ·rw[List.length_map,h3]
  ·rw[List.length_map,h3];exact Nat.le_refl _
  ·rw[List.length_map,h3]
 ·have hg:=(Array.getElem?_eq_some_iff.1 h4).1
  refine⟨some ⟨g,0,none⟩,cap,by rw[List.length_map],by rw[List.length_map];exact h5,by unfold maxLen at h6;omega,.inr ⟨g,0,rfl,hg,h3,fun i hi=>?_⟩⟩
  have hi':i<ts.length:=by simpa using hi
  have hc:∀ q (hq:q<6) u,(tmL ts[i].1 ts[i].2)[q]? = some u->w.cell? ⟨g,0+i*6+q,none⟩=some u:=fun q hq u hu=>by
   have h9:(flQ ts)[i*6+q]? = some u:=(flQ_get ts i q hq hi').trans hu
   rw[<-h8,List.getElem?_take] at h9
   split at h9
   ·rw[Array.getElem?_toList] at h9
    unfold World.cell?
    simp only[h4]
    simpa using h9
   ·cases h9
  refine⟨ts[i].2,?_,?_⟩
  ·rw[List.getElem_map]
   exact⟨hc 0 (by omega) _ rfl,hc 1 (by omega) _ rfl,hc 2 (by omega) _ rfl,hc 3 (by omega) _ rfl,hc 4 (by omega) _ rfl,hc 5 (by omega) _ rfl⟩
  ·rw[List.getElem_map]
   exact(h.sit _ (List.getElem_mem hi')).weak (fun b _ hq=>hq.1)
theorem info_tm:(Tryz.prog.info? 33).map (fun i=>(i.zero,i.size,i.bytes))=some (some (.agg #[.int .i64 0,.string ⟨#[]⟩,.int .i64 0,.int .i64 0,.int .i64 0,.slice none 0 0]),6,72):=by kernel_rfl
theorem PaO.grows {B z:Nat}{w w':World}{v v':Value}{ts qs:List (Tm×Value)}(h:PaO B z w v ts)(hq:∀ p,p∈qs->SitQ (fun b=>B<=b/\v.ownBlock≠some b) z w p.1 p.2)(ob:Obj)
 (ho:w'.ownsRow B 33 6 v' (ts.length+qs.length) (flQ ts++flQ qs)) (hg:(w.alloc ob).grownBy w' v.ownBlock) (hb:v'.ownBlock=v.ownBlock\/v'.ownBlock=some (w.alloc ob).heap.size):PaO B z w' v' (ts++qs):=by
 refine⟨by rw[flQ_append,List.length_append];exact ho,fun p hp=>?_⟩
 have hs:SitQ (fun b=>B<=b/\v.ownBlock≠some b) z w p.1 p.2:=by
  rcases List.mem_append.1 hp with h1 | h1
  ·exact h.sit p h1
  ·exact hq p h1
 have hsz:=hg.size
 simp only[World.size_alloc] at hsz hb
 have k1:∀ b,b<w.heap.size->v.ownBlock≠some b->v'.ownBlock≠some b:=fun b h1 h2=>by
  rcases hb with h3 | h3
  ·rw[h3];exact h2
  ·rw[h3];intro he;cases he;omega
 have k2:∀ b,b<w.heap.size->v.ownBlock≠some b->∀ j,w'.cell? ⟨b,j,none⟩=w.cell? ⟨b,j,none⟩:=fun b h1 h2 j=>by
  have h3:=hg.block b (by simp;omega) (fun he=>h2 he.symm)
  have h4:=World.cell?_of_block (a:=⟨b,j,none⟩) h3
  rw[h4]
  exact World.cell?_alloc_lt _ _ _ h1
 exact SitQ.keep (by omega) (fun b h1 h2=>⟨⟨h2.1,k1 b h1 h2.2⟩,k2 b h1 h2.2⟩) _ _ hs
theorem step_append_tm {ops:Array Oper}{o:Oper}{a:Act}{w:World}{K:Act->World->Prop}{Q:Exit->Act->World->Prop}{E:Prop}{z:Nat}(w0:World)(B:Nat)(hgd:o.guard=none)(s x:Operand)
 (hop:o.op=Op.call {callee:=Callee.builtin Builtin.append,args:=#[s,x],argTypes:=#[31,31]}) (v:Value) (ts qs:List (Tm×Value)) (hw:w=w0.alloc (.cells (flQ qs).toArray 33)) (hs:a.eval s=v) (h:PaO B z w0 v ts)
 (hq:∀ p,p∈qs->SitQ (fun b=>B<=b/\v.ownBlock≠some b) z w0 p.1 p.2) (hl:ts.length+qs.length<=1000000) (hB:B<=w0.heap.size)
 (hx:a.eval x=.slice (some ⟨w0.heap.size,0,none⟩) qs.length qs.length)
 (hK:∀ a' c' w',PaO B z w' (.slice a' (ts.length+qs.length) c') (ts++qs)->Below B w0 w'->K (a.put o.dst (.slice a' (ts.length+qs.length) c')) w') :
 if Region.wanted o (yielded ops a.tmps)=true then Oper.wp Tryz.prog o a w K Q else E:=by
 have hwd:Region.wanted o (yielded ops a.tmps)=true:=by simp[Region.wanted,hgd]
 rw[if_pos hwd]
 subst hw
 obtain⟨i0,hi,hz0,hz1,hz2⟩:=info_parts info_tm
 obtain⟨v',w',hrun,ho,hg,_,hb⟩:=run_append_own_at (P:=Tryz.prog) (w0.alloc (.cells (flQ qs).toArray 33)) B 31 o.type 33 i0 _ 6 72 Tryz.underlying31 hi hz0 hz1 hz2 rfl (by decide) v ts.length (flQ ts) (h.own.alloc _) ⟨w0.heap.size,0,none⟩ qs.length qs.length (flQ qs) (flQ_len qs)
  (fun j u hj=>by
    have hadd:(⟨w0.heap.size,0,none⟩:Addr).add j=⟨w0.heap.size,j,none⟩:=by unfold Addr.add;split<;>simp_all
    rw[hadd]
    exact(Box.new w0 (flQ qs) 33).cell j u hj)
  (flQ_one qs (fun p hp=>(hq p hp).oneCell)) (by unfold maxLen;omega) (by omega) (by simp;omega)
 obtain⟨a',c',rfl⟩:=own_val ho
 unfold Oper.wp
 simp[execOp,hop,resolve,invoke,builtin,hs,hx,hrun,Result.andThen]
 exact hK a' c' w' (h.grows hq _ ho hg hb) (below_own (Below.refl _ _) hB _ (Nat.le_refl _) h.own hg)
theorem step_out {α : Type}{ops:Array Oper}{op:Oper}{a:Act}{w:World}{K:Act->World->Prop}{Q:Exit->Act->World->Prop}{Ee:Prop}{V : α -> Value->World->Prop}{z rb tb lb:Nat}{c:Int}{o:Nat}{r:Rs α}(hgd:op.guard=none){f:FuncId}{args:Array Value}
 (C:Calls Tryz.prog f args w (Out V z w rb tb lb c o r)) (he:(execOp a.eval op).run Tryz.prog w=.ok (.enter f args) w)
 (hErr:∀ fl w',r=.error fl->Turn [rb] w w'->Q (.panic [fltE fl]) a w')
 (hK:∀ y v w',r=.ok y->Turn [rb] w w'->V y.1 v w'->Rea z w' rb tb lb c y.2 o->K (a.put op.dst v) w') :
 if Region.wanted op (yielded ops a.tmps)=true then Oper.wp Tryz.prog op a w K Q else Ee:=by
 have hwd:Region.wanted op (yielded ops a.tmps)=true:=by simp[Region.wanted,hgd]
 rw[if_pos hwd]
 unfold Oper.wp
 rw[he,Oper.upon_enter]
 refine C.mono fun e w' h=>?_
 rcases hr:r with fl | y
 ·obtain⟨rfl,ht⟩:=Out.of_err hr h
  exact hErr fl w' hr ht
 ·obtain⟨ht,v,rfl,hv,hr'⟩:=Out.of_ok hr h
  exact hK y v w' hr ht hv hr'
structure CaS (z:Nat)(w W:World)(rb tb lb:Nat)(c:Int)(o g:Nat)(kd:Int)(a:Nat)(Lr:List Tk)(v:Value)(ts:List (Tm×Value)):Prop where
 rs:Box W w.heap.size zs6
 lt:Box W g [.int .i64 kd,.string ⟨#[]⟩,.int .i64 0,.int .i64 0,.int .i64 (a:Nat),v]
 pa:PaO (g+1) z W v ts
 re:Rea z W rb tb lb c Lr o
 tn:Turn [rb] w W
 gg:w.heap.size<g
 hr:rb<w.heap.size/\tb<w.heap.size/\lb<w.heap.size
theorem CaS.turn {z:Nat}{w W W':World}{rb tb lb:Nat}{c:Int}{o g:Nat}{kd:Int}{a:Nat}{Lr Lq:List Tk}{v:Value}{ts:List (Tm×Value)}(h:CaS z w W rb tb lb c o g kd a Lr v ts)(k:Turn [rb] W W')(r:Rea z W' rb tb lb c Lq o):CaS z w W' rb tb lb c o g kd a Lq v ts:=by
 have h1:=h.gg
 have h2:=h.hr
 exact⟨h.rs.turn k (by simp;omega),h.lt.turn k (by simp;omega),h.pa.turn k (by simp;omega),r,Go.Proofs.YtecdfnpbcabdnaaGreatDoor.tn h.tn k,h.gg,h.hr⟩
theorem CaS.next {z:Nat}{w W W':World}{rb tb lb:Nat}{c:Int}{o g:Nat}{kd:Int}{a:Nat}{Lr:List Tk}{v:Value}{ts:List (Tm×Value)}(h:CaS z w W rb tb lb c o g kd a Lr v ts)(k:Below W.heap.size W W'):CaS z w W' rb tb lb c o g kd a Lr v ts:=
 h.turn (Turn.of_below k) (h.re.next k)
theorem ReaX.later {z:Nat}{w w':World}{rb tb lb:Nat}{c:Int}{L:List Tk}{o off cap B:Nat}(h:ReaX z w rb tb lb c L o off cap)(k:Below B w w')(h1:rb<B/\tb<B/\lb<B):ReaX z w' rb tb lb c L o off cap:=
 ⟨h.box.later k h1.1,h.le,h.mx,fun q u hu=>(k.cell (p:=⟨tb,off+q,none⟩) h1.2.1).trans (h.toks q u hu),fun q u hu=>(k.cell (p:=⟨lb,q,none⟩) h1.2.2).trans (h.levs q u hu),h.nt,h.nl,Nat.lt_of_lt_of_le h.lt k.size,Nat.lt_of_lt_of_le h.ll k.size,h.tl,h.dp,h.ci⟩
theorem Rea.later {z:Nat}{w w':World}{rb tb lb:Nat}{c:Int}{L:List Tk}{o B:Nat}(h:Rea z w rb tb lb c L o)(k:Below B w w')(h1:rb<B/\tb<B/\lb<B):Rea z w' rb tb lb c L o:=by
 obtain⟨off,cap,h⟩:=h
 exact⟨off,cap,h.later k h1⟩
theorem turn_later {rb B:Nat}{w W W':World}(h:Turn [rb] w W)(k:Below B W W')(hB:w.heap.size<=B):Turn [rb] w W':=
 ⟨k.os.trans h.os,k.tape.trans h.tape,k.output.trans h.output,Nat.le_trans h.size k.size,fun i hi hn=>(k.block i (by omega)).trans (h.block i hi hn)⟩
theorem CaS.added {z:Nat}{w W W':World}{rb tb lb:Nat}{c:Int}{o g:Nat}{kd:Int}{a:Nat}{Lr:List Tk}{v v':Value}{ts us:List (Tm×Value)}(h:CaS z w W rb tb lb c o g kd a Lr v ts)(p:PaO (g+1) z W' v' us)(k:Below (g+1) W W'):CaS z w (W'.setCell ⟨g,5,none⟩ v') rb tb lb c o g kd a Lr v' us:=by
 have h1:=h.gg
 have h2:=h.hr
 exact⟨(h.rs.later k (by omega)).other (by omega),(h.lt.later k (by omega)).set 5 (by simp) v',p.turn (turn_set W' g 5 v') (by simp),(h.re.later k (by omega)).turn1 (turn_set W' g 5 v') (by omega),(turn_later h.tn k (by omega)).andSet _ _ (.inr (by show w.heap.size<=g;omega)),h1,h2⟩
theorem PaO.blk {B z:Nat}{w:World}{v:Value}{ts:List (Tm×Value)}(h:PaO B z w v ts)(g:Nat)(hg:v.ownBlock=some g):B<=g/\g<w.heap.size:=h.own.lt g hg
theorem sit_apart {B C z:Nat}{w:World}{v:Value}{t:Tm}{u:Value}(h:SitB C z w t u)(hB:B<=C)(hv:∀ g,v.ownBlock=some g->g<C):SitQ (fun b=>B<=b/\v.ownBlock≠some b) z w t u:=
 h.weak (fun b _ hq=>⟨Nat.le_trans hB hq,fun he=>by have:=hv b he;omega⟩)
theorem moreP_succ (c:Int)(E:Ps)(n:Nat)(ps:List Tm)(L:List Tk):moreP c E (n+1) ps L=bnd (mustS c k_com L) fun a=>bnd (E a.2) fun y=>moreP c E n (ps++[y.1]) y.2:=rfl
set_option maxHeartbeats 4000000 in
set_option maxRecDepth 20000 in
theorem call_c {z rb tb lb:Nat}{c:Int}{L:List Tk}{o:Nat}(hz:z<=9223372036854775807){X:Option Ps}(HX:InC z rb tb lb c o X){t0:Tk}(hx:nxt c L=.ok t0)(hm:isT t0.text t0=true)(kd:Int)(hk0:0<=kd)(hk1:kd<=100)(n:Nat)(hn:n<=2)(w:World)(hr:Rea z w rb tb lb c L o):
 Calls Tryz.prog 127 #[.pointer (some ⟨rb,0,none⟩),.string t0.text,.int .i64 kd,.int .i64 ((n:Nat)+1)] w (Out (VTm w.heap.size z) z w rb tb lb c o (callP c X kd n t0.at_ L.tail)):=by
 obtain⟨pr,hpr⟩:∃ pr,Hid (pr=callP c X kd n t0.at_ L.tail):=⟨_,rfl⟩
 rw[<-hpr.out]
 have hE:Hid (∀ f w',pr=.error f->Turn [rb] w w'->Out (VTm w.heap.size z) z w rb tb lb c o pr (.panicked [fltE f]) w'):=fun f w' h ht=>Out.mk_err h ht
 have hO:Hid (∀ t L' w' v u,pr=.ok (t,L')->Turn [rb] w w'->v=tmV t u->SitB w.heap.size z w' t u->Rea z w' rb tb lb c L' o->Out (VTm w.heap.size z) z w rb tb lb c o pr (.returned v) w'):=fun t L' w' v u h ht hv hs hr'=>Out.mk_ok h ht ⟨u,hv,hs⟩ hr'
 generalize Out (VTm w.heap.size z) z w rb tb lb c o pr=Post at *
 have hL:=hr.lts
 have hne:w.heap.size∉[rb]:=by simp;omega
 have hok:=hr.tl.ok
 rw[<-nxt_inv hx] at hok
 have hm1:=mustS_of hx hm
 have Z0:=Box.new w zs6 33
 go_enter Tryz.func127,Tryz.ntmps127
 go_wp2_with fail
 have T0:=tnO (ob:=.cells (zs6).toArray 33) (Turn.refl [rb] w)
 have r0:=hr.onO (ob:=.cells (zs6).toArray 33)
 have Rs0:=Z0
 have zsz:w.heap.size<(w.alloc (.cells (zs6).toArray 33)).heap.size:=by simp
 clear Z0
 generalize hW0:w.alloc _=w0 at *
 clear hW0
 clear hr
 refine Calls.mono (must_c t0.text _ r0) ?_
 rintro e w1 h1
 obtain⟨t1,_,rfl,rfl,r1⟩:=Out.of_ok hm1 h1
 have Rs1:=Rs0.turn t1 hne
 have T1:=tn T0 t1
 have s1:=t1.size
 clear Rs0 T0 r0 h1 t1
 go_wp2_with fail
 refine Calls.mono (term_c _ _ _ _ _ _) ?_
 rintro e w2 ⟨rfl,b2⟩
 have t2:=Turn.of_below (S:=[rb]) b2
 have r2:=r1.next b2
 have Rs2:=Rs1.turn t2 hne
 have T2:=tn T1 t2
 have s2:=t2.size
 clear Rs1 T1 r1 b2 t2
 go_wp2_with fail
 have t3:=tnO (ob:=.cells ([.int .i64 kd,.string ⟨#[]⟩,.int .i64 0,.int .i64 0,.int .i64 (t0.at_:Nat),.slice none 0 0]).toArray 33) (Turn.refl [rb] w2)
 have r3:=r2.onO (ob:=.cells ([.int .i64 kd,.string ⟨#[]⟩,.int .i64 0,.int .i64 0,.int .i64 (t0.at_:Nat),.slice none 0 0]).toArray 33)
 have Lt3:=Box.new w2 [.int .i64 kd,.string ⟨#[]⟩,.int .i64 0,.int .i64 0,.int .i64 (t0.at_:Nat),.slice none 0 0] 33
 have hnLt:w2.heap.size∉[rb]:=by simp;omega
 have hxLt:w2.heap.size<(w2.alloc (.cells ([.int .i64 kd,.string ⟨#[]⟩,.int .i64 0,.int .i64 0,.int .i64 (t0.at_:Nat),.slice none 0 0]).toArray 33)).heap.size:=by simp
 have Rs3:=Rs2.turn t3 hne
 have T3:=tn T2 t3
 have s3:=t3.size
 clear Rs2 T2 r2 t3
 generalize hW3:w2.alloc _=w3 at *
 clear hW3
 rw[callP] at hpr
 refine Calls.mono (begin_c k_lp _ r3) ?_
 rintro e w4 h4
 rcases hy1:mustS c k_lp L.tail with f | y
 ·obtain⟨rfl,t4⟩:=beg_err hy1 h4
  go_wp2_with fail
  exact⟨rfl,hE.out _ _ (by rw[hpr.out,beginP,hy1];rfl) (tn T3 t4)⟩
 rcases X with _ | E
 ·obtain⟨rfl,t4⟩:=beg_deep hy1 (HX.no rfl) h4
  go_wp2_with fail
  exact⟨rfl,hE.out _ _ (by rw[hpr.out,beginP,hy1];rfl) (tn T3 t4)⟩
 obtain⟨rfl,t4,r4⟩:=beg_ok hy1 (HX.yes E rfl).1 h4
 have Rs4:=Rs3.turn t4 hne
 have Lt4:=Lt3.turn t4 hnLt
 have T4:=tn T3 t4
 have s4:=t4.size
 clear Rs3 Lt3 T3 r3 h4 t4
 have hpr1:Hid (pr=bnd (E y.2) fun y=>bnd (moreP c E n [y.1] y.2) fun z=>closeP c k_rp (tm kd t0.at_ z.1,z.2)):=by show _=_;rw[hpr.out,beginP,hy1];rfl
 obtain⟨ho64,HEx,hDec⟩:=HX.yes E rfl
 have C:CaS z w w4 rb tb lb c (o+1) (w2.heap.size) kd t0.at_ y.2 (.slice none 0 0) []:=⟨Rs4,Lt4,PaO.nil _ _ _,r4,T4,by omega,hL⟩
 clear Rs4 Lt4 T4 r4
 generalize w2.heap.size=g at *
 have c5:=C.lt.cell 5 _ rfl
 have l5:=C.lt.lt
 generalize hW:w4=W0 at *
 obtain⟨v0,hv0⟩:∃ v:Value,v=.slice none 0 0:=⟨_,rfl⟩
 rw[<-hv0] at C c5
 clear hv0
 go_wp2_with fail
 go_region_law (first
  | (refine step_out rfl (HEx _ _ (C.re.next (Below.refl _ _).drew)) (by first | rfl | go_simp) (fun fl w' hf ht=>⟨rfl,hE.out _ _ (by rw[hpr1.out,hf];rfl) (tn C.tn (tn (Turn.of_below (Below.refl _ _).drew) ht))⟩) ?_;rintro x50 _ w50 hy50 t50 ⟨u50,rfl,S50⟩ r50;have z50:Hid (W0.heap.size<=w50.heap.size):=t50.size;have C50:=hid2 ((C.next (Below.refl _ _).drew).turn t50 r50);have q50:=hid2 (C.next (Below.refl _ W0).drew).pa.blk;have c550:=C50.out.lt.cell 5 _ rfl;have l550:=C50.out.lt.lt;have X50:=hid2 S50;clear S50 t50 r50)
  | (refine step_append_tm w50 (g+1) rfl (.tmp 18) (.tmp 21) rfl v0 [] [(x50.1,u50)] rfl (by simp[Act.eval]) C50.out.pa (fun p hp=>by obtain rfl:=List.mem_singleton.1 hp;exact sit_apart X50.out (by have:=C.lt.lt;simp<;>omega) (fun g' hg'=>(q50.out g' hg').2)) (by simp<;>omega) (by have:=C.lt.lt;have:=z50.out;omega) (by simp[Act.eval]) ?_;intro a50 d50 wa50 p50 b50;have CA50:=hid2 (C50.out.added p50 b50);have l50:=((C50.out.lt.later b50 (by omega))).lt;have e550:=(C50.out.lt.later b50 (by omega)).cell 5 _ rfl;have f550:=(C50.out.lt.later b50 (by omega)).free 5 (by simp);clear p50 b50))
 all_goals (
  have hpr2:Hid (pr=bnd (moreP c E (n-0) ([(x50.1,u50)].map Prod.fst) x50.2) fun z=>closeP c k_rp (tm kd t0.at_ z.1,z.2)):=by show _=_;rw[hpr1.out,hy50];rfl
  have CA:=CA50
  clear CA50 C50 c550 l550 q50 X50 z50 l50 e550 f550 C c5 l5
  generalize hW1:wa50.setCell _ _=W1 at *
  clear hW1
  go_wp2_with fail
  go_loopw [26] (fun p wr=>∃ (j:Nat) (Lr:List Tk) (v:Value) (ts:List (Tm×Value)),p=.int .i64 j/\j<=n/\ts.length=j+1/\Hid (CaS z w wr rb tb lb c (o+1) g kd t0.at_ Lr v ts)/\Hid (pr=bnd (moreP c E (n-j) (ts.map Prod.fst) Lr) fun z=>closeP c k_rp (tm kd t0.at_ z.1,z.2))) (fun p _=>n-(RowKit.intOf p).toNat)
  ·exact⟨0,_,_,_,rfl,Nat.zero_le _,rfl,CA,hpr2⟩
  obtain⟨j,Lr,v,ts,rfl,hj,hts,HC,HQ⟩:=hrel
  have HTS:=hid2 hts
  have hlen:ts.length<=3:=by omega
  clear hts
  by_cases hlt:j<n
  ·have hlt':(j:Int)<(n:Int):=by omega
   have hpr3:Hid (pr=bnd (mustS c k_com Lr) fun a=>bnd (E a.2) fun y=>bnd (moreP c E (n-(j+1)) (ts.map Prod.fst++[y.1]) y.2) fun z=>closeP c k_rp (tm kd t0.at_ z.1,z.2)):=by
    show _=_
    rw[HQ.out,show n-j=(n-(j+1))+1 by omega,moreP_succ]
    cases mustS c k_com Lr with
    | error f=>rfl
    | ok a=>
      simp only[bnd_ok]
      cases E a.2 with
      | error f=>rfl
      | ok y=>rfl
   clear HQ CA hpr2
   go_wp2_with fail
   refine Calls.mono (must_c k_com _ HC.out.re) ?_
   rintro e w1 h1
   rcases hym:mustS c k_com Lr with f | ym
   ·obtain⟨rfl,t1⟩:=Out.of_err hym h1
    go_wp2_with fail
    exact⟨rfl,hE.out _ _ (by rw[hpr3.out,hym];rfl) (tn HC.out.tn t1)⟩
   obtain⟨t1,_,rfl,rfl,r1⟩:=Out.of_ok hym h1
   have C2:=HC.out.turn t1 r1
   have hpr4:Hid (pr=bnd (E ym.2) fun y=>bnd (moreP c E (n-(j+1)) (ts.map Prod.fst++[y.1]) y.2) fun z=>closeP c k_rp (tm kd t0.at_ z.1,z.2)):=by show _=_;rw[hpr3.out,hym];rfl
   have c5:=C2.lt.cell 5 _ rfl
   have l5:=C2.lt.lt
   clear HC hpr3 h1 t1 r1
   generalize hW2:w1=W2 at *
   clear hW2
   go_wp2_with fail
   go_region_law (first
    | (refine step_out rfl (HEx _ _ (C2.re.next (Below.refl _ _).drew)) (by first | rfl | go_simp) (fun fl w' hf ht=>⟨rfl,hE.out _ _ (by rw[hpr4.out,hf];rfl) (tn C2.tn (tn (Turn.of_below (Below.refl _ _).drew) ht))⟩) ?_;rintro x60 _ w60 hy60 t60 ⟨u60,rfl,S60⟩ r60;have z60:Hid (W2.heap.size<=w60.heap.size):=t60.size;have C60:=hid2 ((C2.next (Below.refl _ _).drew).turn t60 r60);have q60:=hid2 (C2.next (Below.refl _ W2).drew).pa.blk;have c560:=C60.out.lt.cell 5 _ rfl;have l560:=C60.out.lt.lt;have X60:=hid2 S60;clear S60 t60 r60)
    | (refine step_append_tm w60 (g+1) rfl (.tmp 31) (.tmp 34) rfl v ts [(x60.1,u60)] rfl (by simp[Act.eval]) C60.out.pa (fun p hp=>by obtain rfl:=List.mem_singleton.1 hp;exact sit_apart X60.out (by have:=C2.lt.lt;simp<;>omega) (fun g' hg'=>(q60.out g' hg').2)) (by simp<;>omega) (by have:=C2.lt.lt;have:=z60.out;omega) (by simp[Act.eval]) ?_;intro a60 d60 wa60 p60 b60;have CA60:=hid2 (C60.out.added p60 b60);have l60:=((C60.out.lt.later b60 (by omega))).lt;have e560:=(C60.out.lt.later b60 (by omega)).cell 5 _ rfl;have f560:=(C60.out.lt.later b60 (by omega)).free 5 (by simp);clear p60 b60))
   all_goals go_wp2_with fail
   all_goals go_roundw
   all_goals first
    | (refine⟨j+1,_,_,_,by simp,hlt,by simp[HTS.out],CA60,?_⟩
       show _=_
       rw[hpr4.out,hy60,List.map_append]
       rfl)
    | (simp[RowKit.intOf];omega)
  ·have hjn:j=n:=by omega
   subst hjn
   clear hlt hpr2 CA
   have hpr3:Hid (pr=bnd (mustS c k_rp Lr) fun a=>.ok (tm kd t0.at_ (ts.map Prod.fst),a.2)):=by
    show _=_
    rw[HQ.out,Nat.sub_self]
    rfl
   go_wp2_with fail
   refine Calls.mono (close_c k_rp _ HC.out.re) ?_
   rintro e w1 h1
   rcases hym:mustS c k_rp Lr with f | ym
   ·obtain⟨rfl,t1⟩:=Out.of_err hym h1
    go_wp2_with fail
    exact⟨rfl,hE.out _ _ (by rw[hpr3.out,hym];rfl) (tn HC.out.tn t1)⟩
   obtain⟨t1,_,rfl,rfl,r1⟩:=Out.of_ok hym h1
   have hg0:=HC.out.gg
   have hne2:g∉[rb]:=by simp;omega
   obtain⟨p0,p1,p2,p3,p4,p5,q0,q1,q2,q3,q4,q5⟩:=(HC.out.rs.turn t1 hne).six
   obtain⟨x0,x1,x2,x3,x4,x5,y0,y1,y2,y3,y4,y5⟩:=(HC.out.lt.turn t1 hne2).six
   have xl:=(HC.out.lt.turn t1 hne2).lt
   have pl:=(HC.out.rs.turn t1 hne).lt
   have PA:=HC.out.pa.turn t1 (by simp;omega)
   have T1:=tn HC.out.tn t1
   obtain⟨av,cv,rfl⟩:=PA.val
   have HPA:=hid2 PA
   clear HC h1 t1 PA
   have hg1:g≠w.heap.size:=by omega
   go_wp2_with fail
   refine bodyPost_ret (v:=tmV (tm kd t0.at_ (ts.map Prod.fst)) (.slice av ts.length cv)) (by simp[results,Tryz.results127,go_sem, *]) rfl (hO.out (tm kd t0.at_ (ts.map Prod.fst)) ym.2 _ _ (.slice av ts.length cv) (by rw[hpr3.out,hym];rfl) ?_ rfl ?_ ?_)
   ·exact T1.trans (turn_six _ _ _ _ _ _ _ _) (fun i hi=>.inr (by simp at hi;omega))
   ·exact SitB.lower ((HPA.out.turn (turn_six _ _ _ _ _ _ _ _) (by simp;omega)).sits (fit_of _ _ _ _ _ _ hz hk0 hk1 (Nat.zero_le _) zero64 zero64 hok.a) rfl) (by omega)
   ·exact r1.turn1 (turn_six _ _ _ _ _ _ _ _) hL)
end Go.Proofs.YtecdfnpbcabdnaaGreatDoor
end

import Derived.Test.YtbddbnjhmdbkbaaGreatDoorMbM
import Derived.Deep.RegionWith
import Derived.BigQuiet
import Derived.OwnWalk
namespace Go.Proofs.YtbddbnjhmdbkbaaGreatDoor
open Go.RowKit
abbrev Pr:=Int×Int
def prs:List Pr->List Value
 | []=>[]
 | p::r=>.int .i64 p.1::.int .i64 p.2::prs r
def pz:Pr:=(0,0)
theorem a1b (l:List Pr):(prs l).length=l.length*2:=by
 induction l with
 | nil=>rfl
 | cons p r ih=>simp only[prs,List.length_cons,ih];omega
theorem a4W {l:List Pr}{k:Nat}{p:Pr}(h:l[k]? = some p):(prs l)[k*2]? = some (.int .i64 p.1):=by
 induction l generalizing k with
 | nil=>simp at h
 | cons x r ih=>
   cases k with
   | zero=>simp at h;subst h;rfl
   | succ k=>rw[show (k+1)*2=k*2+1+1 by omega];simpa[prs] using ih (by simpa using h)
theorem a7a {l:List Pr}{k:Nat}{p:Pr}(h:l[k]? = some p):(prs l)[k*2+1]? = some (.int .i64 p.2):=by
 induction l generalizing k with
 | nil=>simp at h
 | cons x r ih=>
   cases k with
   | zero=>simp at h;subst h;rfl
   | succ k=>rw[show (k+1)*2+1=k*2+1+1+1 by omega];simpa[prs] using ih (by simpa using h)
theorem b9f {l:List Pr}{k:Nat}(hk:k<l.length)(p:Pr):prs (l.set k p)=((prs l).set (k*2) (.int .i64 p.1)).set (k*2+1) (.int .i64 p.2):=by
 induction l generalizing k with
 | nil=>simp at hk
 | cons x r ih=>
   cases k with
   | zero=>rfl
   | succ k=>rw[show (k+1)*2=k*2+1+1 by omega];simp only[List.set_cons_succ,prs];rw[ih (by simpa using hk)]
theorem b1K (l r:List Pr):prs (l++r)=prs l++prs r:=by
 induction l with
 | nil=>rfl
 | cons p l ih=>simp[prs,ih]
theorem a6Z (n:Nat):prs (List.replicate n pz)=(madeCells (Value.agg #[.int .i64 0,.int .i64 0]).cells (n*2)).toList:=by
 apply List.ext_getElem
 ·rw[a1b];simp[madeCells]
 ·intro i h1 h2
  have hi:i<n*2:=by rw[a1b] at h1;simpa using h1
  have hc:(Value.agg #[.int .i64 0,.int .i64 0]).cells=#[.int .i64 0,.int .i64 0]:=by rfl
  obtain⟨k,hk | hk⟩:∃ k,i=k*2\/i=k*2+1:=⟨i/2,by omega⟩
  ·subst hk
   have h3:=a4W (l:=List.replicate n pz) (k:=k) (p:=pz) (by rw[List.getElem?_replicate,if_pos (by omega)])
   rw[List.getElem?_eq_getElem h1] at h3
   simp only[Option.some.injEq] at h3
   rw[h3]
   simp[madeCells,hc,pz]
  ·subst hk
   have h3:=a7a (l:=List.replicate n pz) (k:=k) (p:=pz) (by rw[List.getElem?_replicate,if_pos (by omega)])
   rw[List.getElem?_eq_getElem h1] at h3
   simp only[Option.some.injEq] at h3
   rw[h3]
   simp[madeCells,hc,pz,Nat.add_mod]
theorem a7P {w:World}{g:Nat}{l:List Pr}(h:Box w g (prs l)){k:Nat}(hk:k<l.length)(p:Pr):Box ((w.setCell ⟨g,k*2,none⟩ (.int .i64 p.1)).setCell ⟨g,k*2+1,none⟩ (.int .i64 p.2)) g (prs (l.set k p)):=by
 rw[b9f hk]
 exact(h.set (k*2) (by rw[a1b];omega) _).set (k*2+1) (by rw[List.length_set,a1b];omega) _
theorem a1V {w:World}{g:Nat}{l:List Pr}(h:Box w g (prs l)){k:Nat}{p:Pr}(hp:l[k]? = some p):w.cell? ⟨g,k*2,none⟩=some (.int .i64 p.1)/\w.cell? ⟨g,k*2+1,none⟩=some (.int .i64 p.2)/\w.frozen? ⟨g,k*2,none⟩=false/\w.frozen? ⟨g,k*2+1,none⟩=false:=by
 have hk:k<l.length:=(List.getElem?_eq_some_iff.1 hp).1
 exact⟨h.cell _ _ (a4W hp),h.cell _ _ (a7a hp),h.free _ (by rw[a1b];omega),h.free _ (by rw[a1b];omega)⟩
theorem a2V {first n:Nat}(j:Nat)(h:0<n):(first+j)%n<n:=Nat.mod_lt _ h
def b1e (w:World)(b q:Nat)(sv:Value)(cs:List Pr):Prop:=
 (sv=.slice none 0 0/\cs=[]/\q=b)\/(sv=.slice (some ⟨q,0,none⟩) cs.length cs.length/\q≠b/\0<cs.length/\Box w q (prs cs))
structure a4l (w:World)(b q room first:Nat)(sv:Value)(cs L:List Pr):Prop where
 box:Box w b [.int .i64 (room:Nat),.int .i64 (first:Nat),.int .i64 (L.length:Nat),sv]
 slots:b1e w b q sv cs
 fits:L.length<=cs.length
 roomy:cs.length<=room
 inside:first<cs.length\/(cs=[]/\first=0)
 holds:∀ j x,L[j]? = some x->cs[(first+j)%cs.length]? = some x
def Rq (w:World)(b q room:Nat)(L:List Pr):Prop:=∃ first sv cs,a4l w b q room first sv cs L
theorem b1e.turn {S:List Nat}{w w':World}{b q:Nat}{sv:Value}{cs:List Pr}(h:b1e w b q sv cs)(t:a0h S w w')(hq:q∉S):b1e w' b q sv cs:=by
 rcases h with h | ⟨e,n,z,h⟩
 ·exact .inl h
 ·exact .inr ⟨e,n,z,h.turn t hq⟩
theorem a4l.turn {S:List Nat}{w w':World}{b q room first:Nat}{sv:Value}{cs L:List Pr}(h:a4l w b q room first sv cs L)(t:a0h S w w')(hb:b∉S)(hq:q∉S):a4l w' b q room first sv cs L:=
 ⟨h.box.turn t hb,h.slots.turn t hq,h.fits,h.roomy,h.inside,h.holds⟩
theorem a4l.next {w w':World}{b q room first:Nat}{sv:Value}{cs L:List Pr}(h:a4l w b q room first sv cs L)(t:Below w.heap.size w w'):a4l w' b q room first sv cs L:=
 h.turn (S:=[]) (a0h.of_below t) (by simp) (by simp)
theorem a4l.qlt {w:World}{b q room first:Nat}{sv:Value}{cs L:List Pr}(h:a4l w b q room first sv cs L):q<w.heap.size:=by
 rcases h.slots with ⟨_,_,e⟩ | ⟨_,_,_,e⟩
 ·rw[e];exact h.box.lt
 ·exact e.lt
theorem Rq.turn {S:List Nat}{w w':World}{b q room:Nat}{L:List Pr}(h:Rq w b q room L)(t:a0h S w w')(hb:b∉S)(hq:q∉S):Rq w' b q room L:=by
 obtain⟨f,s,c,h⟩:=h
 exact⟨f,s,c,h.turn t hb hq⟩
theorem Rq.next {w w':World}{b q room:Nat}{L:List Pr}(h:Rq w b q room L)(t:Below w.heap.size w w'):Rq w' b q room L:=h.turn (S:=[]) (a0h.of_below t) (by simp) (by simp)
theorem Rq.lt {w:World}{b q room:Nat}{L:List Pr}(h:Rq w b q room L):b<w.heap.size:=by obtain⟨f,s,c,h⟩:=h;exact h.box.lt
theorem Rq.qlt {w:World}{b q room:Nat}{L:List Pr}(h:Rq w b q room L):q<w.heap.size:=by obtain⟨f,s,c,h⟩:=h;exact h.qlt
theorem Rq.len {w:World}{b q room:Nat}{L:List Pr}(h:Rq w b q room L):L.length<=room:=by obtain⟨f,s,c,h⟩:=h;exact ZC h.fits h.roomy
theorem a4l.put {w w':World}{b q room first:Nat}{cs L:List Pr}(h:a4l w b q room first (.slice (some ⟨q,0,none⟩) cs.length cs.length) cs L)(hl:L.length<cs.length)(v:Pr)
 (hw:w'=((w.setCell ⟨q,(first+L.length)%cs.length*2,none⟩ (.int .i64 v.1)).setCell ⟨q,(first+L.length)%cs.length*2+1,none⟩ (.int .i64 v.2)).setCell ⟨b,2,none⟩ (.int .i64 ((L.length+1:Nat):Int))) :
 a4l w' b q room first (.slice (some ⟨q,0,none⟩) cs.length cs.length) (cs.set ((first+L.length)%cs.length) v) (L++[v]):=by
 subst hw
 obtain⟨hbox,hslots,hfit,hroom,hin,hold⟩:=h
 have hn:0<cs.length:=by omega
 rcases hslots with ⟨e,_,_⟩ | ⟨_,hqb,_,hq⟩
 ·cases e
 refine⟨?_,.inr ⟨by simp,hqb,by simpa using hn,?_⟩,by simp;omega,by simpa using hroom,.inl (by rcases hin with h | ⟨h,_⟩;(· simpa using h);(· rw[h] at hn;simp at hn)),?_⟩
 ·have:=((hbox.other (v:=.int .i64 v.1) (j:=(first+L.length)%cs.length*2) (Ne.symm hqb)).other (v:=.int .i64 v.2) (j:=(first+L.length)%cs.length*2+1) (Ne.symm hqb)).set 2 (by simp) (.int .i64 ((L.length+1:Nat):Int))
  simpa using this
 ·exact(a7P hq (a2V _ hn) v).other (j:=2) (v:=.int .i64 ((L.length+1:Nat):Int)) hqb
 ·intro j x hj
  have hf:first<cs.length:=by rcases hin with h | ⟨h,_⟩;(· exact h);(· rw[h] at hn;simp at hn)
  simp only[List.length_set]
  by_cases hjl:j<L.length
  ·rw[List.getElem?_append_left hjl] at hj
   have h1:=hold j x hj
   have hne:(first+L.length)%cs.length≠(first+j)%cs.length:=by
    intro e
    have a1:(first+L.length)%cs.length=if first+L.length<cs.length then first+L.length else first+L.length-cs.length:=by
     split
     ·exact Nat.mod_eq_of_lt (by omega)
     ·rw[Nat.mod_eq_sub_mod (by omega)];exact Nat.mod_eq_of_lt (by omega)
    have a2:(first+j)%cs.length=if first+j<cs.length then first+j else first+j-cs.length:=by
     split
     ·exact Nat.mod_eq_of_lt (by omega)
     ·rw[Nat.mod_eq_sub_mod (by omega)];exact Nat.mod_eq_of_lt (by omega)
    rw[a1,a2] at e
    split at e<;>split at e<;>omega
   rw[List.getElem?_set_ne hne]
   exact h1
  ·have:j<(L++[v]).length:=(List.getElem?_eq_some_iff.1 hj).1
   simp at this
   obtain rfl:j=L.length:=by omega
   simp at hj
   subst hj
   rw[List.getElem?_set_self (a2V _ hn)]
theorem a4l.drop {w w':World}{b q room first:Nat}{cs L:List Pr}{x:Pr}(h:a4l w b q room first (.slice (some ⟨q,0,none⟩) cs.length cs.length) cs (x::L))(z:Pr)
 (hw:w'=(((w.setCell ⟨q,first*2,none⟩ (.int .i64 z.1)).setCell ⟨q,first*2+1,none⟩ (.int .i64 z.2)).setCell ⟨b,1,none⟩ (.int .i64 (((first+1)%cs.length:Nat):Int))).setCell ⟨b,2,none⟩ (.int .i64 (L.length:Nat))) :
 a4l w' b q room ((first+1)%cs.length) (.slice (some ⟨q,0,none⟩) cs.length cs.length) (cs.set first z) L:=by
 subst hw
 obtain⟨hbox,hslots,hfit,hroom,hin,hold⟩:=h
 simp at hfit
 have hn:0<cs.length:=by omega
 have hf:first<cs.length:=by rcases hin with h | ⟨h,_⟩;(· exact h);(· rw[h] at hn;simp at hn)
 rcases hslots with ⟨e,_,_⟩ | ⟨_,hqb,_,hq⟩
 ·cases e
 refine⟨?_,.inr ⟨by simp,hqb,by simpa using hn,?_⟩,by simp;omega,by simpa using hroom,.inl (by simpa using a2V _ hn),?_⟩
 ·have:=(((hbox.other (v:=.int .i64 z.1) (j:=first*2) (Ne.symm hqb)).other (v:=.int .i64 z.2) (j:=first*2+1) (Ne.symm hqb)).set 1 (by simp) (.int .i64 (((first+1)%cs.length:Nat):Int))).set 2 (by simp) (.int .i64 (L.length:Nat))
  simpa using this
 ·exact((a7P hq hf z).other (j:=1) (v:=.int .i64 (((first+1)%cs.length:Nat):Int)) hqb).other (j:=2) (v:=.int .i64 (L.length:Nat)) hqb
 ·intro j y hj
  have h1:=hold (j+1) y (by simpa using hj)
  have hjl:j<L.length:=(List.getElem?_eq_some_iff.1 hj).1
  have e:((first+1)%cs.length+j)%cs.length=(first+(j+1))%cs.length:=by
   rw[Nat.mod_add_mod];congr 1;omega
  simp only[List.length_set]
  rw[e]
  have hne:first≠(first+(j+1))%cs.length:=by
   intro e'
   have a2:(first+(j+1))%cs.length=if first+(j+1)<cs.length then first+(j+1) else first+(j+1)-cs.length:=by
    split
    ·exact Nat.mod_eq_of_lt (by omega)
    ·rw[Nat.mod_eq_sub_mod (by omega)];exact Nat.mod_eq_of_lt (by omega)
   rw[a2] at e'
   split at e'<;>omega
  rw[List.getElem?_set_ne hne]
  exact h1
theorem a4l.grown {w w1 w':World}{b q g room first:Nat}{sv:Value}{cs L ds:List Pr}(h:a4l w b q room first sv cs L)(t:a0h [g] w w1)(hg:w.heap.size<=g)(hbox:Box w1 g (prs (L++ds)))(hd:0<(L++ds).length)(hr:(L++ds).length<=room)
 (hw:w'=(w1.setCell ⟨b,3,none⟩ (.slice (some ⟨g,0,none⟩) (L++ds).length (L++ds).length)).setCell ⟨b,1,none⟩ (.int .i64 0)) :
 a4l w' b g room 0 (.slice (some ⟨g,0,none⟩) (L++ds).length (L++ds).length) (L++ds) L:=by
 subst hw
 have hgb:g≠b:=by have:=h.box.lt;omega
 refine⟨?_,.inr ⟨rfl,hgb,hd,(hbox.other hgb).other hgb⟩,by simp,hr,.inl hd,?_⟩
 ·have:=((h.box.turn t (by simpa using Ne.symm hgb)).set 3 (by simp) (.slice (some ⟨g,0,none⟩) (L++ds).length (L++ds).length)).set 1 (by simp) (.int .i64 0)
  simpa using this
 ·intro j x hj
  have hjl:j<L.length:=(List.getElem?_eq_some_iff.1 hj).1
  rw[Nat.zero_add,Nat.mod_eq_of_lt (by simp;omega),List.getElem?_append_left hjl]
  exact hj
theorem c0I (b q room:Nat)(L:List Pr)(w:World)(h:Rq w b q room L):
 Calls Tryz.prog 247 #[.pointer (some ⟨b,0,none⟩)] w fun e w'=>e=.returned (.int .i64 (L.length:Nat))/\w=w':=by
 obtain⟨first,sv,cs,h⟩:=h
 obtain⟨c0,c1,c2,c3,f0,f1,f2,f3⟩:=h.box.four
 have hlt:=h.box.lt
 go_enter Tryz.func247,Tryz.ntmps247
 go_wp2_with fail
 go_ret
 exact⟨rfl,rfl⟩
theorem b6g (b q room:Nat)(L:List Pr)(w:World)(h:Rq w b q room L):
 Calls Tryz.prog 234 #[.pointer (some ⟨b,0,none⟩)] w fun e w'=>e=.returned (.int .i64 (room:Nat))/\w=w':=by
 obtain⟨first,sv,cs,h⟩:=h
 obtain⟨c0,c1,c2,c3,f0,f1,f2,f3⟩:=h.box.four
 have hlt:=h.box.lt
 go_enter Tryz.func234,Tryz.ntmps234
 go_wp2_with fail
 go_ret
 exact⟨rfl,rfl⟩
theorem b1D (b q room first n j s:Nat)(v2:Value)(w:World)(hbox:Box w b [.int .i64 (room:Nat),.int .i64 (first:Nat),v2,.slice (some ⟨q,0,none⟩) n n])(hn:0<n)(hm:n<=4096)(hf:first<n)(hj:j<=4096)(hs:s=(first+j)%n):
 Calls Tryz.prog 238 #[.pointer (some ⟨b,0,none⟩),.int .i64 (j:Nat)] w fun e w'=>e=.returned (.int .i64 (s:Nat))/\∃ k,w'=w.drewN k:=by
 obtain⟨c0,c1,c2,c3,f0,f1,f2,f3⟩:=hbox.four
 have hlt:=hbox.lt
 have hz:¬(n:Int)=0:=by omega
 have hk:(((first:Nat):Int)+(j:Nat))%(n:Nat)=(s:Nat):=by rw[hs,Int.natCast_emod,Int.natCast_add]
 have HK:Hid _:=hk
 clear hk hs
 go_enter Tryz.func238,Tryz.ntmps238
 go_wp2_with fail
 go_quiet (fail)
 go_wp2_with fail
 go_ret
 exact⟨by rw[HK.out];rfl,_,rfl⟩
theorem b2Q {L xs:List Pr}{k:Nat}{x:Pr}(hx:L[k]? = some x)(hk:k<xs.length):(L.take k++xs.drop k).set k x=L.take (k+1)++xs.drop (k+1):=by
 have hkl:k<L.length:=(List.getElem?_eq_some_iff.1 hx).1
 have h1:(L.take k).length=k:=by simp;omega
 rw[List.drop_eq_getElem_cons hk,List.set_append_right _ _ (by omega),h1,Nat.sub_self,List.set_cons_zero,List.take_add_one,hx]
 simp
set_option maxRecDepth 20000 in
set_option maxHeartbeats 1000000 in
theorem c2B (b q room:Nat)(L:List Pr)(w:World)(h:Rq w b q room L)(hr:room<=4096)(g m c:Nat)(xs:List Pr)(hg:Box w g (prs xs))(hgb:g≠b)(hgq:g≠q)(hm:L.length<=m)(hm2:m<=xs.length)(hm3:m<=4096):
 Calls Tryz.prog 271 #[.pointer (some ⟨b,0,none⟩),.slice (some ⟨g,0,none⟩) m c] w fun e w'=>e=.returned (.tuple #[])/\a0h [g] w w'/\Box w' g (prs (L++xs.drop L.length)):=by
 have hlen:=h.len
 obtain⟨first,sv,cs,h⟩:=h
 go_enter Tryz.func271,Tryz.ntmps271
 go_wp2_with fail
 refine(c0I b q room L w ⟨first,sv,cs,h⟩).mono ?_
 rintro e w1 ⟨rfl,rfl⟩
 go_wp2_with fail
 go_loopw [7] (fun p wr=>∃ k:Nat,p=.int .i64 k/\k<=L.length/\a0h [g] w wr/\Box wr g (prs (L.take k++xs.drop k))) (fun p _=>L.length-(intOf p).toNat)
 case atStart=>exact⟨0,rfl,by omega,a0h.refl _ _,by simpa using hg⟩
 case round=>
  obtain⟨k,rfl,hk,ht,hbx⟩:=hrel
  by_cases hlt:k<L.length
  ·obtain⟨x,hx⟩:∃ x,L[k]? = some x:=⟨_,List.getElem?_eq_getElem hlt⟩
   have h1:=h.turn ht (by simpa using Ne.symm hgb) (by simpa using Ne.symm hgq)
   have hn:0<cs.length:=by have:=h.fits;omega
   have hc4:cs.length<=4096:=by have:=h.roomy;omega
   obtain⟨n,hnn⟩:∃ n,n=cs.length:=⟨_,rfl⟩
   rcases h1.slots with ⟨_,e,_⟩ | ⟨rfl,hqb,_,hq⟩
   ·rw[e] at hn;simp at hn
   obtain⟨s,hs⟩:∃ s,s=(first+k)%cs.length:=⟨_,rfl⟩
   have hsn:s<cs.length:=by rw[hs];exact a2V _ hn
   have hf:first<cs.length:=by rcases h.inside with h | ⟨h,_⟩;(· exact h);(· rw[h] at hn;simp at hn)
   obtain⟨s0,s1,_,_⟩:=a1V (k:=s) hq (by rw[hs];exact h.holds k x hx)
   obtain⟨y,hy⟩:∃ y,(L.take k++xs.drop k)[k]? = some y:=⟨_,List.getElem?_eq_getElem (by simp;omega)⟩
   obtain⟨y0,y1,z0,z1⟩:=a1V hbx hy
   have z1':(wr.setCell ⟨g,k*2,none⟩ (.int .i64 x.1)).frozen? ⟨g,k*2+1,none⟩=false:=(World.frozen?_setCell _ _ _ _).trans z1
   clear hy
   have hc:=fun (wx:World) (hbx:Box wx b [.int .i64 (room:Nat),.int .i64 (first:Nat),.int .i64 (L.length:Nat),.slice (some ⟨q,0,none⟩) cs.length cs.length])=>b1D b q room first cs.length k s _ wx hbx hn hc4 hf (by omega) hs
   obtain⟨c0,c1,c2,c3,f0,f1,f2,f3⟩:=h1.box.four
   have hb0:=h1.box
   rw[<-hnn] at hsn c3 hb0 hc
   have hkm:k<m:=by omega
   have hkm':(k:Int)<(m:Int):=by omega
   have hsn':(s:Int)<(n:Int):=by omega
   have HC:=hid hc
   have HN:=hid hnn
   have HS:=hid hs
   have HB:=hid hb0
   have HX:=hid hbx
   have HT:=hid ht
   have hblt:=h1.box.lt
   clear hc hnn hs hb0 h1 h hq hbx hg ht
   go_wp2_with fail
   go_region_with (go_at_call 238;refine(HC.out _ (HB.out.alike (by rfl))).mono ?_;rintro e w1 ⟨rfl,kk,rfl⟩)
   all_goals (go_wp2_with fail;go_roundw)
   all_goals first
    | exact⟨k+1,by simp,by omega,((HT.out.trans (a0I [] _ _) (by simp)).andSet ⟨g,k*2,none⟩ _ (.inl (by simp))).andSet ⟨g,k*2+1,none⟩ _ (.inl (by simp)),by rw[<-b2Q hx (by omega)];exact a7P (HX.out.alike (by rfl)) (by simp;omega) x⟩
    | (simp[intOf];omega)
  ·obtain rfl:k=L.length:=by omega
   go_wp2_with fail
   go_end0
   exact⟨rfl,ht,by simpa using hbx⟩
theorem a3K {B:Nat}{a w:World}(h:Below B a w)(n:Nat):Below B a (w.drewN n):=⟨h.os,h.tape,h.output,h.size,h.block⟩
def pv (p:Pr):Value:=.agg #[.int .i64 p.1,.int .i64 p.2]
theorem a4l.drewN {w:World}{b q room first:Nat}{sv:Value}{cs L:List Pr}(h:a4l w b q room first sv cs L)(k:Nat):a4l (w.drewN k) b q room first sv cs L:=h.turn (a0I [] w k) (by simp) (by simp)
set_option maxRecDepth 20000 in
set_option maxHeartbeats 1000000 in
theorem b9d (b q room:Nat)(L:List Pr)(j:Nat)(x:Pr)(w:World)(h:Rq w b q room L)(hr:room<=4096)(hx:L[j]? = some x):
 Calls Tryz.prog 270 #[.pointer (some ⟨b,0,none⟩),.int .i64 (j:Nat)] w fun e w'=>e=.returned (.tuple #[pv x,.bool true])/\Below w.heap.size w w':=by
 have hjl:j<L.length:=(List.getElem?_eq_some_iff.1 hx).1
 have hlen:=h.len
 have hb1:Below w.heap.size w (w.alloc (.cells #[.int .i64 0,.int .i64 0] 78)):=(ZD _ _).alloc (ZB _) _
 replace h:=h.next hb1
 have hbx:=(a1c w 78 [.int .i64 0,.int .i64 0]).1
 have hP:=h
 obtain⟨first,sv,cs,h⟩:=h
 have hn:0<cs.length:=by have:=h.fits;omega
 have hc4:cs.length<=4096:=by have:=h.roomy;omega
 have hf:first<cs.length:=by rcases h.inside with h | ⟨h,_⟩;(· exact h);(· rw[h] at hn;simp at hn)
 rcases h.slots with ⟨_,e,_⟩ | ⟨rfl,hqb,_,hq⟩
 ·rw[e] at hn;simp at hn
 obtain⟨n,hnn⟩:∃ n,n=cs.length:=⟨_,rfl⟩
 obtain⟨s,hs⟩:∃ s,s=(first+j)%cs.length:=⟨_,rfl⟩
 have hsn:s<cs.length:=by rw[hs];exact a2V _ hn
 obtain⟨s0,s1,_,_⟩:=a1V (k:=s) hq (by rw[hs];exact h.holds j x hx)
 obtain⟨c0,c1,c2,c3,f0,f1,f2,f3⟩:=h.box.four
 obtain⟨x0,x1,y0,y1⟩:=hbx.two
 have hc:=fun (wx:World) (hbx:Box wx b [.int .i64 (room:Nat),.int .i64 (first:Nat),.int .i64 (L.length:Nat),.slice (some ⟨q,0,none⟩) cs.length cs.length])=>b1D b q room first cs.length j s _ wx hbx hn hc4 hf (by omega) hs
 have hb0:=h.box
 have hblt:=h.box.lt
 rw[<-hnn] at hsn c3 hb0 hc
 have hsn':(s:Int)<(n:Int):=by omega
 have hj1:¬(j:Int)<0:=by omega
 have hj2:¬(L.length:Int)<=(j:Int):=by omega
 obtain⟨W1,hW1⟩:∃ W1,W1=w.alloc (.cells #[.int .i64 0,.int .i64 0] 78):=⟨_,rfl⟩
 rw[<-hW1] at c0 c1 c2 c3 f0 f1 f2 f3 x0 x1 y0 y1 hP hb0 hb1 s0 s1 hblt
 have y1':∀ n,((W1.drewN n).setCell ⟨w.heap.size,0,none⟩ (.int .i64 x.1)).frozen? ⟨w.heap.size,1,none⟩=false:=fun n=>(World.frozen?_setCell _ _ _ _).trans y1
 have hbx1:Box W1 w.heap.size [.int .i64 0,.int .i64 0]:=by rw[hW1];exact hbx
 have o:=fun n=>(((hbx1.alike (w':=W1.drewN n) (by rfl)).set 0 (by simp) (.int .i64 x.1)).set 1 (by simp) (.int .i64 x.2)).two
 have o0:=fun n=>(o n).1
 have o1:=fun n=>(o n).2.1
 have HP:=hid hP
 have HC:=hid hc
 have HN:=hid hnn
 have HS:=hid hs
 have HB:=hid hb0
 have HB1:=hid hb1
 clear hc hnn hs hb0 h hq hP hx hb1 hbx hbx1 o
 go_enter Tryz.func270,Tryz.ntmps270
 go_wp2_with fail
 rw[<-hW1]
 clear hW1
 refine(c0I _ q room L _ HP.out).mono ?_
 rintro e w1 ⟨rfl,rfl⟩
 go_wp2_with fail
 go_region_with (go_at_call 238;refine(HC.out _ (HB.out.alike (by rfl))).mono ?_;rintro e w1 ⟨rfl,kk,rfl⟩)
 all_goals go_wp2_with fail
 all_goals (
  refine bodyPost_ret (v:=.tuple #[pv x,.bool true]) (by simp[results,Tryz.results270,go_sem,Act.put,o0,o1,pv]) rfl ⟨rfl,?_⟩
  exact((a3K HB1.out _).setCell (by simp) _).setCell (by simp) _)
def b7B (w:World)(b q room:Nat)(L:List Pr)(x:Pr)(e:Ending)(w':World):Prop:=e=.returned (.tuple #[pv x,.bool true])/\(∃ first cs,a4l w' b q room first (.slice (some ⟨q,0,none⟩) cs.length cs.length) cs L/\L.length<cs.length)/\a0h [b,q] w w'
set_option maxRecDepth 20000 in
set_option maxHeartbeats 1000000 in
theorem b0x (b q room:Nat)(L:List Pr)(x:Pr)(w:World)(h:Rq w b q room (x::L))(hr:room<=4096):
 Calls Tryz.prog 236 #[.pointer (some ⟨b,0,none⟩)] w (b7B w b q room L x):=by
 have hlen:=h.len
 have lb:=h.lt
 have lq:=h.qlt
 obtain⟨hx0,hx1,hbl⟩:=a0n w 78 78 [.int .i64 0,.int .i64 0] [.int .i64 0,.int .i64 0]
 replace h:=h.next hbl
 have hP:=h
 obtain⟨W1,hW1⟩:∃ W1,W1=(w.alloc (.cells #[.int .i64 0,.int .i64 0] 78)).alloc (.cells #[.int .i64 0,.int .i64 0] 78):=⟨_,rfl⟩
 have hs1:W1.heap.size=w.heap.size+1+1:=by rw[hW1];simp
 rw[<-hW1] at hx0 hx1 hbl h hP
 obtain⟨first,sv,cs,h⟩:=h
 have hn:0<cs.length:=by have:=h.fits;simp at this;omega
 have hc4:cs.length<=4096:=by have:=h.roomy;omega
 have hf:first<cs.length:=by rcases h.inside with h | ⟨h,_⟩;(· exact h);(· rw[h] at hn;simp at hn)
 rcases h.slots with ⟨_,e,_⟩ | ⟨rfl,hqb,_,hq⟩
 ·rw[e] at hn;simp at hn
 obtain⟨n,hnn⟩:∃ n,n=cs.length:=⟨_,rfl⟩
 obtain⟨s,hs⟩:∃ s,s=(first+1)%cs.length:=⟨_,rfl⟩
 obtain⟨k,hk⟩:∃ k,k=(x::L).length:=⟨_,rfl⟩
 have hk1:k=L.length+1:=by rw[hk];simp
 obtain⟨s0,s1,t0,t1⟩:=a1V (k:=first) hq (by have:=h.holds 0 x rfl;rw[Nat.add_zero,Nat.mod_eq_of_lt hf] at this;exact this)
 obtain⟨c0,c1,c2,c3,f0,f1,f2,f3⟩:=h.box.four
 obtain⟨x0,x1,y0,y1⟩:=hx0.two
 obtain⟨u0,u1,v0,v1⟩:=hx1.two
 have hb0:=h.box
 have hblt:=h.box.lt
 have hc:=fun (wx:World) (hbx:Box wx b [.int .i64 (room:Nat),.int .i64 (first:Nat),.int .i64 ((x::L).length:Nat),.slice (some ⟨q,0,none⟩) cs.length cs.length])=>b1D b q room first cs.length 1 s _ wx hbx hn hc4 hf (by omega) hs
 rw[<-hnn] at c3 hb0 hc hf
 rw[<-hk] at hb0 hc c2
 have hsn':(first:Int)<(n:Int):=by omega
 have hk0:¬(k:Int)=0:=by omega
 have hkb:k<=4096:=by omega
 have hkc:1<=k:=by omega
 have ba:Below W1.heap.size W1 (W1.alloc (.cells #[.int .i64 0,.int .i64 0] 78)):=(ZD _ _).alloc (ZB _) _
 have lq1:q<W1.heap.size:=by omega
 have a1:=(ba.cell (p:=⟨b,1,none⟩) hblt).trans c1
 have a3:=(ba.cell (p:=⟨b,3,none⟩) hblt).trans c3
 have as0:=(ba.cell (p:=⟨q,first*2,none⟩) lq1).trans s0
 have as1:=(ba.cell (p:=⟨q,first*2+1,none⟩) lq1).trans s1
 have HP:=hid hP
 have HC:=hid hc
 have HN:=hid hnn
 have HS:=hid hs
 have HB:=hid hb0
 have HH:=hid h
 have HK:=hid hk
 have HK1:=hid hk1
 have HX:=hid hx0
 have HZ:=hid hx1
 have HBL:=hid hbl
 clear hc hnn hs hb0 h hq hP hk1 hx0 hx1 hbl
 go_enter Tryz.func236,Tryz.ntmps236
 go_wp2_with fail
 rw[<-hW1]
 clear hW1
 refine(c0I _ q room (x::L) W1 HP.out).mono ?_
 rintro e w1 ⟨rfl,rfl⟩
 rw[<-hk]
 clear hk
 go_wp2_with fail
 go_region
 all_goals go_wp2_with fail
 have b2:Below W1.heap.size W1 (W1.alloc (.cells #[.int .i64 x.1,.int .i64 x.2] 78)).drew:=((ZD _ _).alloc (ZB _) _).drew
 have hO:Box (W1.alloc (.cells #[.int .i64 x.1,.int .i64 x.2] 78)).drew (w.heap.size+1+1) [.int .i64 x.1,.int .i64 x.2]:=by
  have:=(Box.new W1 [.int .i64 x.1,.int .i64 x.2] 78).alike (w':=(W1.alloc (.cells #[.int .i64 x.1,.int .i64 x.2] 78)).drew) (by rfl)
  rwa [hs1] at this
 obtain⟨W2,hW2⟩:∃ W2,W2=(W1.alloc (.cells #[.int .i64 x.1,.int .i64 x.2] 78)).drew:=⟨_,rfl⟩
 rw[<-hW2] at b2 hO ⊢
 have H2:=HH.out.next b2
 have hR0:=HX.out.next b2
 have hZ0:=HZ.out.next b2
 have hb1:=HB.out.next b2
 clear c0 c1 c2 c3 f0 f1 f2 f3 x0 x1 y0 y1 u0 u1 v0 v1 s0 s1 t0 t1 a1 a3 as0 as1 ba hW2
 obtain⟨c0,c1,c2,c3,f0,f1,f2,f3⟩:=hb1.four
 obtain⟨u0,u1,v0,v1⟩:=hZ0.two
 have hblt:=hb1.lt
 rcases H2.slots with ⟨e,_,_⟩ | ⟨_,_,_,hq⟩
 ·cases e
 obtain⟨s0,s1,t0,t1⟩:=a1V (k:=first) hq (by have:=H2.holds 0 x rfl;have hff:first<cs.length:=(by (have:=HN.out;omega));rw[Nat.add_zero,Nat.mod_eq_of_lt hff] at this;exact this)
 have H2':=hid H2
 have HR0:=hid hR0
 have HO:=hid hO
 have HB1:=hid hb1
 have HBL2:=hid b2
 clear H2 hR0 hO hb1 hq hZ0 b2
 go_region
 all_goals go_wp2_with fail
 obtain⟨W3,hW3⟩:∃ W3,W3=((W2.setCell ⟨q,first*2,none⟩ (.int .i64 0)).setCell ⟨q,first*2+1,none⟩ (.int .i64 0)).drew:=⟨_,rfl⟩
 have t3:a0h [q] W2 W3:=by rw[hW3];exact(((a0h.refl _ _).andSet ⟨q,first*2,none⟩ _ (.inl (by simp))).andSet ⟨q,first*2+1,none⟩ _ (.inl (by simp))).trans (a0I [] _ 1) (by simp)
 have hb3:=HB1.out.turn t3 (by simpa using Ne.symm hqb)
 have hO3:=HO.out.turn t3 (by simp;omega)
 have hR3:=HR0.out.turn t3 (by simp;omega)
 rw[<-hW3]
 clear c0 c1 c2 c3 f0 f1 f2 f3 u0 u1 v0 v1 s0 s1 t0 t1 hblt
 obtain⟨c0,c1,c2,c3,f0,f1,f2,f3⟩:=hb3.four
 have bo:=fun kk (u v:Value)=>(((hO3.alike (w':=W3.drewN kk) (by rfl)).other (q:=b) (j:=1) (v:=u) (by omega)).other (q:=b) (j:=2) (v:=v) (by omega)).two
 have br:=fun kk (u v:Value)=>((hR3.alike (w':=W3.drewN kk) (by rfl)).other (q:=b) (j:=1) (v:=u) (by omega)).other (q:=b) (j:=2) (v:=v) (by omega)
 have bo0:=fun kk u v=>(bo kk u v).1
 have bo1:=fun kk u v=>(bo kk u v).2.1
 have br0:=fun kk u v=>(br kk u v).two.1
 have br1:=fun kk u v=>(br kk u v).two.2.1
 have br2:=fun kk u v=>(br kk u v).two.2.2.1
 have br3:=fun kk u v=>(br kk u v).two.2.2.2
 have o:=fun kk u v=>(((br kk u v).set 0 (by simp) (.int .i64 x.1)).set 1 (by simp) (.int .i64 x.2)).two
 have o0:=fun kk u v=>(o kk u v).1
 have o1:=fun kk u v=>(o kk u v).2.1
 have HB3:=hid hb3
 have HW3:=hid hW3
 have HT3:=hid t3
 clear bo br o hb3 hO3 hR3 hW3 t3
 refine ZE (HC.out W3 HB3.out) ?_
 rintro e w2 ⟨rfl,kk,rfl⟩
 go_wp2_with fail
 have e1:((k:Int)-1)=(L.length:Nat):=by have:=HK1.out;omega
 rw[e1]
 have hS:=HS.out
 subst hS
 refine bodyPost_ret (v:=.tuple #[pv x,.bool true]) (by simp[results,Tryz.results236,go_sem,o0,o1,pv]) rfl ?_
 have hw3:=HW3.out
 subst hw3
 have hr2:=a4l.drop (w':=(((((W2.drew.drewN kk).setCell ⟨q,first*2,none⟩ (.int .i64 0)).setCell ⟨q,first*2+1,none⟩ (.int .i64 0))).setCell ⟨b,1,none⟩ (.int .i64 (((first+1)%cs.length:Nat):Int))).setCell ⟨b,2,none⟩ (.int .i64 (L.length:Nat))) (H2'.out.turn (S:=[]) (w':=W2.drew.drewN kk) ⟨rfl,rfl,rfl,ZB _,fun _ _ _=>rfl⟩ (by simp) (by simp)) pz rfl
 refine⟨rfl,⟨(first+1)%cs.length,cs.set first pz,?_,by have:=H2'.out.fits;simp at this ⊢;omega⟩,?_⟩
 ·simp only[List.length_set]
  exact hr2.turn (S:=[w.heap.size]) ((a0h.set _ ⟨w.heap.size,0,none⟩ (.int .i64 x.1) (by simp)).andSet ⟨w.heap.size,1,none⟩ (.int .i64 x.2) (.inl (by simp))) (by simp;omega) (by simp;omega)
 ·have q1:a0h [b,q] w W2:=(a0h.of_below HBL.out).trans (a0h.of_below (S:=[]) HBL2.out) (by simp)
  exact(((((q1.trans HT3.out (by simp)).trans (a0I [] _ _) (by simp)).andSet ⟨b,1,none⟩ _ (.inl (by simp))).andSet ⟨b,2,none⟩ _ (.inl (by simp))).andSet ⟨w.heap.size,0,none⟩ _ (.inr (by simp))).andSet ⟨w.heap.size,1,none⟩ _ (.inr (by simp))
theorem a8E:(Tryz.prog.info? 78).map (fun i=>(i.zero,i.size,i.bytes))=some (some (.agg #[.int .i64 0,.int .i64 0]),2,16):=by kernel_rfl
theorem b4Q {w w':World}{n base:Nat}(h:w'.ownsRow base 78 2 (.slice (some ⟨w.heap.size,0,none⟩) n n) n (madeCells (Value.agg #[.int .i64 0,.int .i64 0]).cells (n*2)).toList):Box w' w.heap.size (prs (List.replicate n pz)):=by
 obtain⟨hl,⟨e,_⟩ | ⟨g,cap,cur,e,hb,hg,_,_,hs,ht⟩⟩:=h
 ·cases e
 ·cases e
  rw[List.take_of_length_le (by simp[hs])] at ht
  rw[a6Z,<-ht]
  exact Box.ofBlock hg
set_option maxRecDepth 20000 in
set_option maxHeartbeats 1000000 in
theorem c2A (b q room:Nat)(L:List Pr)(w:World)(h:Rq w b q room L)(hr:room<=4096)(hl:L.length<room):
 Calls Tryz.prog 237 #[.pointer (some ⟨b,0,none⟩)] w fun e w'=>e=.returned (.tuple #[])/\a0h [b] w w'/\∃ g first cs,w.heap.size<=g/\a4l w' b g room first (.slice (some ⟨g,0,none⟩) cs.length cs.length) cs L/\L.length<cs.length:=by
 obtain⟨i0,hi,hz0,hz1,hz2⟩:=info_parts a8E
 have hh:=h
 obtain⟨first,sv,cs,h⟩:=h
 obtain⟨c0,c1,c2,c3,f0,f1,f2,f3⟩:=h.box.four
 have hblt:=h.box.lt
 obtain⟨k,hk⟩:∃ k,k=L.length:=⟨_,rfl⟩
 rw[<-hk] at c2
 have hk1:k<room:=by omega
 have HH:=hid hh
 have H1:=hid h
 have HK:=hid hk
 clear hh h hk
 obtain⟨m,hm⟩:∃ m:Nat,m=min (2*k+1) room:=⟨_,rfl⟩
 have hif:(if (room:Int)<2*(k:Int)+1 then (room:Int) else 2*(k:Int)+1)=(m:Nat):=by split<;>omega
 have hm2:k<m:=by omega
 have hm3:m<=room:=by omega
 have hw1:IntKind.i64.wrap (2*(k:Int))=2*(k:Int):=by rw[IntKind.wrap_i64];omega
 have hw2:IntKind.i64.wrap (2*(k:Int)+1)=2*(k:Int)+1:=by rw[IntKind.wrap_i64];omega
 obtain⟨w1,hrun,hown,hgrow⟩:=run_make_full (P:=Tryz.prog) w.drew w.heap.size 76 78 i0 (.agg #[.int .i64 0,.int .i64 0]) 2 Tryz.underlying76 hi hz0 hz1 .i64 .i64 m (by rw[hz2];omega) (by simp only[maxLen];omega) (ZB _)
 have HM:=hid hm
 have HO:=hid hown
 have HG:=hid hgrow
 clear hm hown hgrow
 go_enter Tryz.func237,Tryz.ntmps237
 go_wp2_with fail
 go_region
 have hk2:=b4Q (w:=w.drew) HO.out
 have hb1:Below w.heap.size w w1:=((ZD _ w).drew).grown HG.out (ZB _) (by simp)
 have hR:=HH.out.next hb1
 have hI:=H1.out.next hb1
 have hlt:=HH.out.lt
 have hql:=HH.out.qlt
 have hHK:=HK.out
 clear c0 c1 c2 c3 f0 f1 f2 f3 hrun
 go_wp2_with fail
 refine(c2B b q room L w1 hR hr w.heap.size m m _ hk2 (by omega) (by omega) (by omega) (by simp) (by omega)).mono ?_
 rintro e w2 ⟨rfl,ht,hk3⟩
 have hI2:=hI.box.turn ht (by simp;omega)
 obtain⟨c0,c1,c2,c3,f0,f1,f2,f3⟩:=hI2.four
 have HI:=hid hI
 have HT:=hid ht
 have HK3:=hid hk3
 have HH1:=hid hHK
 clear hI hI2 ht hk3 hR hk2 hHK
 go_wp2_with fail
 go_end0
 have hl':(L++(List.replicate m pz).drop L.length).length=m:=by have:=HH1.out;simp;omega
 have tt:a0h [w.heap.size] w w2:=(a0h.of_below hb1).trans HT.out (by simp)
 refine⟨rfl,?_,w.heap.size,0,L++(List.replicate m pz).drop L.length,ZB _,a4l.grown H1.out tt (ZB _) HK3.out (by omega) (by omega) (by rw[hl']),by have:=HH1.out;omega⟩
 exact(((a0h.of_below hb1).trans HT.out (by simp)).andSet ⟨b,3,none⟩ _ (.inl (by simp))).andSet ⟨b,1,none⟩ _ (.inl (by simp))
end Go.Proofs.YtbddbnjhmdbkbaaGreatDoor

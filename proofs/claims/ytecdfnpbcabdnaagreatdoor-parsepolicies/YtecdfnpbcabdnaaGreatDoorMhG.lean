import Derived.Test.YtecdfnpbcabdnaaGreatDoorMhK
import Derived.Test.YtecdfnpbcabdnaaGreatDoorMgJ
import Derived.Deep.RegionHeld3
namespace Go.Proofs.YtecdfnpbcabdnaaGreatDoor
open Go.RowKit Go.Lib
abbrev rrL (tb off n cap i:Nat)(ov c er:Int)(wh:Nat):List Value:=[.slice (some ⟨tb,off,none⟩) n cap,.int .i64 (i:Nat),.int .i64 ov,.int .i64 c,.int .i64 er,.int .i64 (wh:Nat)]
def erI:Option Flt->Int
 | none=>0
 | some f=>f.2
def erW:Option Flt->Nat
 | none=>0
 | some f=>f.1
structure RrX (z:Nat)(w:World)(rb tb:Nat)(LL:List Tk)(c:Int)(S:Sr)(o off cap i:Nat)(ov:Int):Prop where
 box:Box w rb (rrL tb off LL.length cap i ov c (erI S.er) (erW S.er))
 le:LL.length<=cap
 mx:cap<=9223372036854775807
 toks:∀ q u,(tkL LL)[q]? = some u->w.cell? ⟨tb,off+q,none⟩=some u
 nt:tb≠rb
 lt:tb<w.heap.size
 il:i<LL.length
 dr:S.L=LL.drop i
 tl:TL z S.L
 er:∀ f,S.er=some f->f.2≠0/\In64 f.2/\f.1<=z
 op:S.er=none->ov=(o:Nat)
 oi:In64 ov
 dp:o<=64
 ci:In64 c
def Rr (z:Nat)(w:World)(rb tb:Nat)(LL:List Tk)(c:Int)(S:Sr)(o:Nat):Prop:=∃ off cap i ov,RrX z w rb tb LL c S o off cap i ov
theorem RrX.turn {z:Nat}{w w':World}{rb tb:Nat}{LL:List Tk}{c:Int}{S:Sr}{o off cap i:Nat}{ov:Int}{T:List Nat}(h:RrX z w rb tb LL c S o off cap i ov)(k:Turn T w w')(h1:rb∉T)(h2:tb∉T):RrX z w' rb tb LL c S o off cap i ov:=
 ⟨h.box.turn k h1,h.le,h.mx,fun q u hu=>(turn_cell k h.lt h2).trans (h.toks q u hu),h.nt,Nat.lt_of_lt_of_le h.lt k.size,h.il,h.dr,h.tl,h.er,h.op,h.oi,h.dp,h.ci⟩
theorem Rr.turn {z:Nat}{w w':World}{rb tb:Nat}{LL:List Tk}{c:Int}{S:Sr}{o:Nat}{T:List Nat}(h:Rr z w rb tb LL c S o)(k:Turn T w w')(h1:rb∉T)(h2:tb∉T):Rr z w' rb tb LL c S o:=by
 obtain⟨off,cap,i,ov,h⟩:=h
 exact⟨off,cap,i,ov,h.turn k h1 h2⟩
theorem Rr.next {z:Nat}{w w':World}{rb tb:Nat}{LL:List Tk}{c:Int}{S:Sr}{o:Nat}(h:Rr z w rb tb LL c S o)(k:Below w.heap.size w w'):Rr z w' rb tb LL c S o:=h.turn (S:=S) (T:=[]) (Turn.of_below k) (by simp) (by simp)
theorem Rr.lts {z:Nat}{w:World}{rb tb:Nat}{LL:List Tk}{c:Int}{S:Sr}{o:Nat}(h:Rr z w rb tb LL c S o):rb<w.heap.size/\tb<w.heap.size:=by
 obtain⟨off,cap,i,ov,h⟩:=h
 exact⟨h.box.lt,h.lt⟩
theorem Rr.tl {z:Nat}{w:World}{rb tb:Nat}{LL:List Tk}{c:Int}{S:Sr}{o:Nat}(h:Rr z w rb tb LL c S o):TL z S.L:=by
 obtain⟨off,cap,i,ov,h⟩:=h
 exact h.tl
theorem Rr.turn1 {z:Nat}{w w':World}{rb tb:Nat}{LL:List Tk}{c:Int}{S:Sr}{o g:Nat}(h:Rr z w rb tb LL c S o)(k:Turn [g] w w')(hg:rb<g/\tb<g):Rr z w' rb tb LL c S o:=
 h.turn k (by simp;omega) (by simp;omega)
theorem RrX.hd {z:Nat}{w:World}{rb tb:Nat}{LL:List Tk}{c:Int}{S:Sr}{o off cap i:Nat}{ov:Int}(h:RrX z w rb tb LL c S o off cap i ov):
 w.cell? ⟨tb,off+i*4,none⟩=some (.int .i64 (hdT S.L).kind)/\w.cell? ⟨tb,off+i*4+1,none⟩=some (.string (hdT S.L).text)/\w.cell? ⟨tb,off+i*4+2,none⟩=some (.int .i64 (hdT S.L).n)/\w.cell? ⟨tb,off+i*4+3,none⟩=some (.int .i64 ((hdT S.L).at_:Nat)):=by
 have hdrop:∀ (L:List Tk) (i q:Nat),(tkL (L.drop i))[q]? = (tkL L)[i*4+q]?:=by
  intro L
  induction L with
  | nil=>intro i q;simp[tkL]
  | cons t L ih=>
    intro i q
    cases i with
    | zero=>simp
    | succ i=>
      rw[List.drop_succ_cons,ih]
      show _=(tkC t++tkL L)[(i+1)*4+q]?
      rw[List.getElem?_append_right (by simp;omega)]
      congr 1
      simp
      omega
 have g:=fun q (hq:q<4)=>h.toks (i*4+q) _ ((hdrop LL i q).symm.trans ((by rw[<-h.dr];exact tkL_hd h.tl.ne q hq:(tkL (LL.drop i))[q]? = (tkC (hdT S.L))[q]?).trans (List.getElem?_eq_getElem (by simpa using hq))))
 exact⟨by simpa using g 0 (by omega),by simpa[Nat.add_assoc] using g 1 (by omega),by simpa[Nat.add_assoc] using g 2 (by omega),by simpa[Nat.add_assoc] using g 3 (by omega)⟩
set_option maxHeartbeats 1000000 in
theorem qAt_c {z rb tb:Nat}{LL:List Tk}{c:Int}{S:Sr}{o:Nat}(w:World)(hr:Rr z w rb tb LL c S o):
 Calls Tryz.prog 33 #[.pointer (some ⟨rb,0,none⟩)] w fun e w'=>e=.returned (.int .i64 ((hdT S.L).at_:Nat))/\Below w.heap.size w w':=by
 obtain⟨off,cap,i,ov,h⟩:=hr
 obtain⟨t0,t1,t2,t3⟩:=h.hd
 obtain⟨c0,c1,c2,c3,c4,c5,f0,f1,f2,f3,f4,f5⟩:=h.box.six
 have hl:=h.box.lt
 have htl:=h.lt
 have hil:(i:Int)<(LL.length:Int):=by have:=h.il;omega
 have hmx:=h.mx
 have hle:=h.le
 generalize hdT S.L=t at *
 generalize hn:LL.length=n at *
 generalize erI S.er=er at *
 generalize erW S.er=wh at *
 clear h hn
 go_enter Tryz.func33,Tryz.ntmps33
 go_wp2_with fail
 go_quiet (fail)
 go_wp2_with fail
 go_ret
 exact⟨rfl,below_drewN (Below.refl _ _) _⟩
theorem Rr.good {z:Nat}{w:World}{rb tb:Nat}{LL:List Tk}{c:Int}{S:Sr}{o:Nat}(hr:Rr z w rb tb LL c S o):S.good=decide (erI S.er=0):=by
 obtain⟨off,cap,i,ov,h⟩:=hr
 unfold Sr.good
 cases he:S.er with
 | none=>rfl
 | some f=>exact(decide_eq_false (h.er f he).1).symm
set_option maxHeartbeats 2000000 in
theorem qIs_c {z rb tb:Nat}{LL:List Tk}{c:Int}{S:Sr}{o:Nat}(x:ByteArray)(w:World)(hr:Rr z w rb tb LL c S o):
 Calls Tryz.prog 39 #[.pointer (some ⟨rb,0,none⟩),.string x] w fun e w'=>e=.returned (.bool (isR x S))/\Below w.heap.size w w':=by
 have hgood:=hr.good
 unfold isR isT
 rw[hgood]
 obtain⟨off,cap,i,ov,h⟩:=hr
 obtain⟨t0,t1,t2,t3⟩:=h.hd
 obtain⟨c0,c1,c2,c3,c4,c5,f0,f1,f2,f3,f4,f5⟩:=h.box.six
 have hl:=h.box.lt
 have htl:=h.lt
 have hil:(i:Int)<(LL.length:Int):=by have:=h.il;omega
 have hmx:=h.mx
 have hle:=h.le
 generalize hdT S.L=t at *
 generalize hn:LL.length=n at *
 generalize erI S.er=er at *
 generalize erW S.er=wh at *
 clear h hn hgood
 obtain⟨b,hb⟩:∃ b,Hid (b=(decide (er=0)&&(decide (t.text=x)&&(decide (t.kind=5)||decide (t.kind=6))))):=⟨_,rfl⟩
 rw[<-hb.out]
 have B0:Hid (∀ o,Below w.heap.size w (w.alloc o).drew):=fun o=>((Below.refl _ _).alloc (Nat.le_refl _) _).drew
 go_enter Tryz.func39,Tryz.ntmps39
 go_wp2_with fail
 go_region_held3 (fun w'=>w'.cell? ⟨rb,0,none⟩=some (.slice (some ⟨tb,off,none⟩) n cap)/\w'.cell? ⟨rb,1,none⟩=some (.int .i64 (i:Nat))/\w'.cell? ⟨tb,off+i*4,none⟩=some (.int .i64 t.kind)/\w'.cell? ⟨tb,off+i*4+1,none⟩=some (.string t.text)/\w'.cell? ⟨tb,off+i*4+2,none⟩=some (.int .i64 t.n)/\w'.cell? ⟨tb,off+i*4+3,none⟩=some (.int .i64 (t.at_:Nat))) (simp[go_sem, *]) (fail)
 rename_i hh
 clear hh
 by_cases e1:er=0
 ·by_cases e2:t.text=x
  ·by_cases e3:t.kind=5
   ·have hb':b=true:=by rw[hb.out,e1,e2,e3];simp
    go_wp2_with fail
    go_ret
    exact⟨by rw[hb'];rfl,B0.out _⟩
   ·by_cases e4:t.kind=6
    ·have hb':b=true:=by rw[hb.out,e1,e2,e4];simp
     go_wp2_with fail
     go_ret
     exact⟨by rw[hb'];rfl,B0.out _⟩
    ·have hb':b=false:=by rw[hb.out,decide_eq_false e3,decide_eq_false e4];simp
     have k3:(t.kind==5)=false:=by simpa using e3
     have k4:(t.kind==6)=false:=by simpa using e4
     go_wp2_with fail
     go_ret
     exact⟨by rw[hb'];rfl,B0.out _⟩
  ·have hb':b=false:=by rw[hb.out,decide_eq_false e2];simp
   have k2:=ba_ne e2
   go_wp2_with fail
   go_ret
   exact⟨by rw[hb'];rfl,B0.out _⟩
 ·have hb':b=false:=by rw[hb.out,decide_eq_false e1];simp
  have k1:(er==0)=false:=by simpa using e1
  go_wp2_with fail
  go_ret
  exact⟨by rw[hb'];rfl,B0.out _⟩
theorem RrX.fault {z:Nat}{w:World}{rb tb:Nat}{LL:List Tk}{c:Int}{S:Sr}{o off cap i:Nat}{ov:Int}(h:RrX z w rb tb LL c S o off cap i ov){w':World}{f:Flt}(hb:Box w' rb (rrL tb off LL.length cap i ov c f.2 f.1))(k:Turn [rb] w w')(hf:f.2≠0/\In64 f.2)(hz:f.1<=z):RrX z w' rb tb LL c ⟨some f,S.L⟩ o off cap i ov:=
 ⟨hb,h.le,h.mx,fun q u hu=>(turn_cell k h.lt (by simp;exact h.nt)).trans (h.toks q u hu),h.nt,Nat.lt_of_lt_of_le h.lt k.size,h.il,h.dr,h.tl,fun g hg=>by rw[<-Option.some.inj hg];exact⟨hf.1,hf.2,hz⟩,fun hg=>(by cases hg),h.oi,h.dp,h.ci⟩
theorem RrX.step {z:Nat}{w:World}{rb tb:Nat}{LL:List Tk}{c:Int}{S:Sr}{o off cap i:Nat}{ov:Int}(h:RrX z w rb tb LL c S o off cap i ov){w':World}{o':Nat}{ov':Int}(hb:Box w' rb (rrL tb off LL.length cap (i+1) ov' c (erI S.er) (erW S.er)))(k:Turn [rb] w w')(hk:(hdT S.L).kind≠7)(ho:S.er=none->ov'=(o':Nat))(hi:In64 ov')(hd:o'<=64):RrX z w' rb tb LL c (adv S) o' off cap (i+1) ov':=
 ⟨hb,h.le,h.mx,fun q u hu=>(turn_cell k h.lt (by simp;exact h.nt)).trans (h.toks q u hu),h.nt,Nat.lt_of_lt_of_le h.lt k.size,by
   have h1:=(h.tl.tail hk).pos
   rw[h.dr,List.tail_drop,List.length_drop] at h1
   omega,by show S.L.tail=_;rw[h.dr,List.tail_drop],h.tl.tail hk,h.er,ho,hi,hd,h.ci⟩
def WrP (z:Nat)(w:World)(rb tb:Nat)(LL:List Tk)(c:Int)(S':Sr)(o:Nat)(e:Ending)(w':World):Prop:=e=.returned (.tuple #[])/\Turn [rb] w w'/\Rr z w' rb tb LL c S' o
theorem RrX.at_le {z:Nat}{w:World}{rb tb:Nat}{LL:List Tk}{c:Int}{S:Sr}{o off cap i:Nat}{ov:Int}(h:RrX z w rb tb LL c S o off cap i ov):(hdT S.L).at_<=z:=h.tl.ok.a
set_option maxHeartbeats 2000000 in
theorem qWrong_c {z rb tb:Nat}{LL:List Tk}{c:Int}{S:Sr}{o:Nat}(x:Int)(hx:x≠0/\In64 x)(w:World)(hr:Rr z w rb tb LL c S o):
 Calls Tryz.prog 32 #[.pointer (some ⟨rb,0,none⟩),.int .i64 x] w (WrP z w rb tb LL c (wrR c x S) o):=by
 have hgood:=hr.good
 obtain⟨off,cap,i,ov,h⟩:=hr
 have HX:=hid2 h
 have Ha:=h.at_le
 unfold wrR
 by_cases e1:erI S.er=0
 ·rw[if_pos (by rw[hgood];exact decide_eq_true e1)]
  have hF:Hid (∀ w' f,Box w' rb (rrL tb off LL.length cap i ov c f.2 f.1)->Turn [rb] w w'->f=((hdT S.L).at_,(if (hdT S.L).kind=7/\c≠0 then c else x))->WrP z w rb tb LL c ⟨some ((hdT S.L).at_,(if (hdT S.L).kind=7/\c≠0 then c else x)),S.L⟩ o (.returned (.tuple #[])) w'):=fun w' f hb k hf=>⟨rfl,k,off,cap,i,ov,by
   subst hf
   refine h.fault hb k ?_ Ha
   show (if (hdT S.L).kind=7/\c≠0 then c else x)≠0/\In64 (if (hdT S.L).kind=7/\c≠0 then c else x)
   split
   ·rename_i hh
    exact⟨hh.2,h.ci⟩
   ·exact hx⟩
  generalize WrP z w rb tb LL c ⟨some ((hdT S.L).at_,(if (hdT S.L).kind=7/\c≠0 then c else x)),S.L⟩ o=Post at *
  have HB:=hid2 h.box
  obtain⟨t0,t1,t2,t3⟩:=h.hd
  obtain⟨c0,c1,c2,c3,c4,c5,f0,f1,f2,f3,f4,f5⟩:=h.box.six
  have hl:=h.box.lt
  have htl:=h.lt
  have hil:(i:Int)<(LL.length:Int):=by have:=h.il;omega
  have hmx:=h.mx
  have hle:=h.le
  generalize hdT S.L=t at *
  generalize hn:LL.length=n at *
  generalize erI S.er=er at *
  generalize erW S.er=wh at *
  clear h hn hgood HX
  have B0:Hid (∀ o,Below w.heap.size w (w.alloc o).drew):=fun o=>((Below.refl _ _).alloc (Nat.le_refl _) _).drew
  go_enter Tryz.func32,Tryz.ntmps32
  go_wp2_with fail
  go_region_held3 (fun w'=>w'.cell? ⟨rb,0,none⟩=some (.slice (some ⟨tb,off,none⟩) n cap)/\w'.cell? ⟨rb,1,none⟩=some (.int .i64 (i:Nat))/\w'.cell? ⟨tb,off+i*4,none⟩=some (.int .i64 t.kind)/\w'.cell? ⟨tb,off+i*4+1,none⟩=some (.string t.text)/\w'.cell? ⟨tb,off+i*4+2,none⟩=some (.int .i64 t.n)/\w'.cell? ⟨tb,off+i*4+3,none⟩=some (.int .i64 (t.at_:Nat))) (simp[go_sem, *]) (fail)
  rename_i hh
  clear hh
  have B1:Hid (∀ (W:World) o,Below W.heap.size W (W.alloc o).drew):=fun W o=>((Below.refl _ _).alloc (Nat.le_refl _) _).drew
  have TD:Hid (∀ (W:World) o,Turn [rb] w W->Turn [rb] w (W.alloc o).drew):=fun W o k=>k.andBelow (B1.out W o)
  have T0:Hid (Turn [rb] w w):=Turn.refl _ _
  by_cases e2:t.kind=7
  ·by_cases e3:c=0
   ·rw[if_neg (fun hh=>hh.2 e3)] at hF
    go_wp2_with fail
    refine bodyPost_ret (v:=.tuple #[]) (by simp[results,Tryz.results32,go_sem]) rfl ?_
    exact hF.out _ (t.at_,x) (((HB.out.set 5 (by simp) _).set 4 (by simp) _).next (B1.out _ _)) (TD.out _ _ ((T0.out.andSet _ _ (.inl (by simp))).andSet _ _ (.inl (by simp)))) rfl
   ·rw[if_pos ⟨e2,e3⟩] at hF
    have k3:(c != 0)=true:=by simpa using e3
    go_wp2_with fail
    refine bodyPost_ret (v:=.tuple #[]) (by simp[results,Tryz.results32,go_sem]) rfl ?_
    exact hF.out _ (t.at_,c) ((((HB.out.set 5 (by simp) _).set 4 (by simp) _).set 4 (by simp) _).next (B1.out _ _)) (TD.out _ _ (((T0.out.andSet _ _ (.inl (by simp))).andSet _ _ (.inl (by simp))).andSet _ _ (.inl (by simp)))) rfl
  ·rw[if_neg (fun hh=>e2 hh.1)] at hF
   have k2:(t.kind==7)=false:=by simpa using e2
   go_wp2_with fail
   refine bodyPost_ret (v:=.tuple #[]) (by simp[results,Tryz.results32,go_sem]) rfl ?_
   exact hF.out _ (t.at_,x) (((HB.out.set 5 (by simp) _).set 4 (by simp) _).next (B1.out _ _)) (TD.out _ _ ((T0.out.andSet _ _ (.inl (by simp))).andSet _ _ (.inl (by simp)))) rfl
 ·rw[if_neg (by rw[hgood,decide_eq_false e1];simp)]
  have hP:Hid (WrP z w rb tb LL c S o (.returned (.tuple #[])) w):=⟨rfl,Turn.refl _ _,off,cap,i,ov,h⟩
  generalize WrP z w rb tb LL c S o=Post at *
  have c4:=h.box.cell 4 _ rfl
  have hl:=h.box.lt
  generalize erI S.er=er at *
  generalize erW S.er=wh at *
  have k1:(er != 0)=true:=by simpa using e1
  clear h HX hgood
  go_enter Tryz.func32,Tryz.ntmps32
  go_wp2_with fail
  refine bodyPost_ret (v:=.tuple #[]) (by simp[results,Tryz.results32,go_sem]) rfl ?_
  exact hP.out
def MaP (z:Nat)(w:World)(rb tb:Nat)(LL:List Tk)(c:Int)(b:Bool)(S':Sr)(o:Nat)(e:Ending)(w':World):Prop:=e=.returned (.bool b)/\Turn [rb] w w'/\Rr z w' rb tb LL c S' o
theorem Rr.any {z:Nat}{w:World}{rb tb:Nat}{LL:List Tk}{c:Int}{S:Sr}{o:Nat}(h:Rr z w rb tb LL c S o)(he:S.good=false){o':Nat}(ho:o'<=64):Rr z w rb tb LL c S o':=by
 obtain⟨off,cap,i,ov,h⟩:=h
 refine⟨off,cap,i,ov,h.box,h.le,h.mx,h.toks,h.nt,h.lt,h.il,h.dr,h.tl,h.er,fun hg=>?_,h.oi,ho,h.ci⟩
 unfold Sr.good at he
 rw[hg] at he
 cases he
theorem isR_good {x:ByteArray}{S:Sr}(h:isR x S=true):S.er=none/\isT x (hdT S.L)=true:=by
 unfold isR Sr.good at h
 simp only[Bool.and_eq_true] at h
 exact⟨Option.isNone_iff_eq_none.1 h.1,h.2⟩
theorem wr_good {c e:Int}{S:Sr}:(wrR c e S).good=false:=by
 unfold wrR
 split
 ·rfl
 ·rename_i h
  simpa using h
set_option maxHeartbeats 2000000 in
theorem qMay_c {z rb tb:Nat}{LL:List Tk}{c:Int}{S:Sr}{o:Nat}(x:ByteArray)(hx:(x.toList==[40])=false/\(x.toList==[123])=false/\(x.toList==[41])=false/\(x.toList==[125])=false)(w:World)(hr:Rr z w rb tb LL c S o):
 Calls Tryz.prog 31 #[.pointer (some ⟨rb,0,none⟩),.string x] w (MaP z w rb tb LL c (isR x S) (mayR x S) o):=by
 have HI:=hid2 (qIs_c x w hr)
 cases h1:isR x S with
 | true=>
   rw[h1] at HI
   obtain⟨g1,g2⟩:=isR_good h1
   obtain⟨off,cap,i,ov,h⟩:=hr
   have HX:=hid2 h
   have hP:Hid (∀ w',Turn [rb] w w'->Box w' rb (rrL tb off LL.length cap (i+1) ov c (erI S.er) (erW S.er))->MaP z w rb tb LL c true (mayR x S) o (.returned (.bool true)) w'):=fun w' ht hb=>⟨rfl,ht,off,cap,i+1,ov,by
    unfold mayR
    rw[if_pos h1]
    exact HX.out.step hb ht (isT_kind g2) HX.out.op HX.out.oi HX.out.dp⟩
   generalize MaP z w rb tb LL c true (mayR x S) o=Post at *
   have hil:(i:Int)<(LL.length:Int):=by have:=h.il;omega
   have hmx:=h.mx
   have hle:=h.le
   have HB:=hid2 h.box
   generalize LL.length=n at *
   generalize erI S.er=er at *
   generalize erW S.er=wh at *
   obtain⟨x1,x2,x3,x4⟩:=hx
   clear h HX h1 g1 g2
   go_enter Tryz.func31,Tryz.ntmps31
   go_wp2_with fail
   refine Calls.mono HI.out ?_
   rintro e w1 ⟨rfl,b1⟩
   obtain⟨c0,c1,c2,c3,c4,c5,f0,f1,f2,f3,f4,f5⟩:=(HB.out.next b1).six
   have hl:=(HB.out.next b1).lt
   go_wp2_with fail
   exact hP.out _ ((Turn.of_below b1).andSet _ _ (.inl (by simp))) ((HB.out.next b1).set 1 (by simp) _)
 | false=>
   rw[h1] at HI
   have hP:Hid (∀ w',Below w.heap.size w w'->MaP z w rb tb LL c false (mayR x S) o (.returned (.bool false)) w'):=fun w' b=>⟨rfl,Turn.of_below b,by unfold mayR;rw[if_neg (by rw[h1];simp)];exact hr.next b⟩
   generalize MaP z w rb tb LL c false (mayR x S) o=Post at *
   clear hr h1
   go_enter Tryz.func31,Tryz.ntmps31
   go_wp2_with fail
   refine Calls.mono HI.out ?_
   rintro e w1 ⟨rfl,b1⟩
   go_wp2_with fail
   exact hP.out _ b1
set_option maxHeartbeats 2000000 in
theorem qMayLp_c {z rb tb:Nat}{LL:List Tk}{c:Int}{S:Sr}{o:Nat}(ho:o≠64)(w:World)(hr:Rr z w rb tb LL c S o):
 Calls Tryz.prog 31 #[.pointer (some ⟨rb,0,none⟩),.string k_lp] w (MaP z w rb tb LL c (isR k_lp S) (mayR k_lp S) (if isR k_lp S=true then o+1 else o)):=by
 have HI:=hid2 (qIs_c k_lp w hr)
 cases h1:isR k_lp S with
 | true=>
   rw[h1] at HI
   rw[if_pos rfl]
   obtain⟨g1,g2⟩:=isR_good h1
   obtain⟨off,cap,i,ov,h⟩:=hr
   have HX:=hid2 h
   have hov:ov=(o:Nat):=h.op g1
   subst hov
   have hil:(i:Int)<(LL.length:Int):=by have:=h.il;omega
   have hmx:=h.mx
   have hle:=h.le
   have hdp:=h.dp
   have HB:=hid2 h.box
   have hP:Hid (∀ w',Turn [rb] w w'->Box w' rb (rrL tb off LL.length cap (i+1) ((o+1:Nat):Int) c (erI S.er) (erW S.er))->MaP z w rb tb LL c true (mayR k_lp S) (o+1) (.returned (.bool true)) w'):=fun w' ht hb=>⟨rfl,ht,off,cap,i+1,_,by
    unfold mayR
    rw[if_pos h1]
    exact HX.out.step hb ht (isT_kind g2) (fun _=>rfl) (by unfold In64;omega) (by omega)⟩
   generalize MaP z w rb tb LL c true (mayR k_lp S) (o+1)=Post at *
   generalize LL.length=n at *
   generalize erI S.er=er at *
   generalize erW S.er=wh at *
   have k64:((o:Int)==64)=false:=by simp;omega
   clear h HX h1 g1 g2
   go_enter Tryz.func31,Tryz.ntmps31
   go_wp2_with fail
   refine Calls.mono HI.out ?_
   rintro e w1 ⟨rfl,b1⟩
   obtain⟨c0,c1,c2,c3,c4,c5,f0,f1,f2,f3,f4,f5⟩:=(HB.out.next b1).six
   have hl:=(HB.out.next b1).lt
   go_wp2_with fail
   exact hP.out _ (((Turn.of_below b1).andSet _ _ (.inl (by simp))).andSet _ _ (.inl (by simp))) (((HB.out.next b1).set 2 (by simp) _).set 1 (by simp) _)
 | false=>
   rw[h1] at HI
   have hP:Hid (∀ w',Below w.heap.size w w'->MaP z w rb tb LL c false (mayR k_lp S) (if false=true then o+1 else o) (.returned (.bool false)) w'):=fun w' b=>⟨rfl,Turn.of_below b,by unfold mayR;rw[if_neg (by rw[h1];simp),if_neg (by simp)];exact hr.next b⟩
   generalize MaP z w rb tb LL c false (mayR k_lp S) (if false=true then o+1 else o)=Post at *
   clear hr h1
   go_enter Tryz.func31,Tryz.ntmps31
   go_wp2_with fail
   refine Calls.mono HI.out ?_
   rintro e w1 ⟨rfl,b1⟩
   go_wp2_with fail
   exact hP.out _ b1
set_option maxHeartbeats 2000000 in
theorem qMayLpF_c {z rb tb:Nat}{LL:List Tk}{c:Int}{S:Sr}(w:World)(hr:Rr z w rb tb LL c S 64):
 Calls Tryz.prog 31 #[.pointer (some ⟨rb,0,none⟩),.string k_lp] w (MaP z w rb tb LL c false (if isR k_lp S=true then wrR c 15 S else S) 64):=by
 have HI:=hid2 (qIs_c k_lp w hr)
 cases h1:isR k_lp S with
 | true=>
   rw[h1] at HI
   rw[if_pos rfl]
   have HW:=hid2 (fun W (k:Below w.heap.size w W)=>qWrong_c 15 ⟨by decide,by unfold In64;omega⟩ W (hr.next k))
   obtain⟨g1,g2⟩:=isR_good h1
   have HC:Hid (∀ W,Below w.heap.size w W->W.cell? ⟨rb,2,none⟩=some (.int .i64 64)/\rb<W.heap.size):=by
    obtain⟨off,cap,i,ov,h⟩:=hr
    intro W k
    have hh:=(h.box.next k).cell 2 _ rfl
    rw[h.op g1] at hh
    exact⟨hh,(h.box.next k).lt⟩
   have hP:Hid (∀ w',Turn [rb] w w'->Rr z w' rb tb LL c (wrR c 15 S) 64->MaP z w rb tb LL c false (wrR c 15 S) 64 (.returned (.bool false)) w'):=fun w' ht hr'=>⟨rfl,ht,hr'⟩
   generalize MaP z w rb tb LL c false (wrR c 15 S) 64=Post at *
   clear h1 g1 g2 hr
   go_enter Tryz.func31,Tryz.ntmps31
   go_wp2_with fail
   refine Calls.mono HI.out ?_
   rintro e w1 ⟨rfl,b1⟩
   obtain⟨c2,hl⟩:=HC.out _ b1
   go_wp2_with fail
   refine Calls.mono (HW.out _ b1) ?_
   rintro e w2 ⟨rfl,t2,r2⟩
   go_wp2_with fail
   exact hP.out _ ((Turn.of_below b1).trans t2 (fun _ hi=>.inl hi)) r2
 | false=>
   rw[h1] at HI
   have hP:Hid (∀ w',Below w.heap.size w w'->MaP z w rb tb LL c false (if false=true then wrR c 15 S else S) 64 (.returned (.bool false)) w'):=fun w' b=>⟨rfl,Turn.of_below b,hr.next b⟩
   generalize MaP z w rb tb LL c false (if false=true then wrR c 15 S else S) 64=Post at *
   clear hr h1
   go_enter Tryz.func31,Tryz.ntmps31
   go_wp2_with fail
   refine Calls.mono HI.out ?_
   rintro e w1 ⟨rfl,b1⟩
   go_wp2_with fail
   exact hP.out _ b1
set_option maxHeartbeats 2000000 in
theorem qMayLb_c {z rb tb:Nat}{LL:List Tk}{c:Int}{S:Sr}{o:Nat}(ho:o≠64)(w:World)(hr:Rr z w rb tb LL c S o):
 Calls Tryz.prog 31 #[.pointer (some ⟨rb,0,none⟩),.string k_lb] w (MaP z w rb tb LL c (isR k_lb S) (mayR k_lb S) (if isR k_lb S=true then o+1 else o)):=by
 have HI:=hid2 (qIs_c k_lb w hr)
 cases h1:isR k_lb S with
 | true=>
   rw[h1] at HI
   rw[if_pos rfl]
   obtain⟨g1,g2⟩:=isR_good h1
   obtain⟨off,cap,i,ov,h⟩:=hr
   have HX:=hid2 h
   have hov:ov=(o:Nat):=h.op g1
   subst hov
   have hil:(i:Int)<(LL.length:Int):=by have:=h.il;omega
   have hmx:=h.mx
   have hle:=h.le
   have hdp:=h.dp
   have HB:=hid2 h.box
   have hP:Hid (∀ w',Turn [rb] w w'->Box w' rb (rrL tb off LL.length cap (i+1) ((o+1:Nat):Int) c (erI S.er) (erW S.er))->MaP z w rb tb LL c true (mayR k_lb S) (o+1) (.returned (.bool true)) w'):=fun w' ht hb=>⟨rfl,ht,off,cap,i+1,_,by
    unfold mayR
    rw[if_pos h1]
    exact HX.out.step hb ht (isT_kind g2) (fun _=>rfl) (by unfold In64;omega) (by omega)⟩
   generalize MaP z w rb tb LL c true (mayR k_lb S) (o+1)=Post at *
   generalize LL.length=n at *
   generalize erI S.er=er at *
   generalize erW S.er=wh at *
   have k64:((o:Int)==64)=false:=by simp;omega
   clear h HX h1 g1 g2
   go_enter Tryz.func31,Tryz.ntmps31
   go_wp2_with fail
   refine Calls.mono HI.out ?_
   rintro e w1 ⟨rfl,b1⟩
   obtain⟨c0,c1,c2,c3,c4,c5,f0,f1,f2,f3,f4,f5⟩:=(HB.out.next b1).six
   have hl:=(HB.out.next b1).lt
   go_wp2_with fail
   exact hP.out _ (((Turn.of_below b1).andSet _ _ (.inl (by simp))).andSet _ _ (.inl (by simp))) (((HB.out.next b1).set 2 (by simp) _).set 1 (by simp) _)
 | false=>
   rw[h1] at HI
   have hP:Hid (∀ w',Below w.heap.size w w'->MaP z w rb tb LL c false (mayR k_lb S) (if false=true then o+1 else o) (.returned (.bool false)) w'):=fun w' b=>⟨rfl,Turn.of_below b,by unfold mayR;rw[if_neg (by rw[h1];simp),if_neg (by simp)];exact hr.next b⟩
   generalize MaP z w rb tb LL c false (mayR k_lb S) (if false=true then o+1 else o)=Post at *
   clear hr h1
   go_enter Tryz.func31,Tryz.ntmps31
   go_wp2_with fail
   refine Calls.mono HI.out ?_
   rintro e w1 ⟨rfl,b1⟩
   go_wp2_with fail
   exact hP.out _ b1
set_option maxHeartbeats 2000000 in
theorem qMayLbF_c {z rb tb:Nat}{LL:List Tk}{c:Int}{S:Sr}(w:World)(hr:Rr z w rb tb LL c S 64):
 Calls Tryz.prog 31 #[.pointer (some ⟨rb,0,none⟩),.string k_lb] w (MaP z w rb tb LL c false (if isR k_lb S=true then wrR c 15 S else S) 64):=by
 have HI:=hid2 (qIs_c k_lb w hr)
 cases h1:isR k_lb S with
 | true=>
   rw[h1] at HI
   rw[if_pos rfl]
   have HW:=hid2 (fun W (k:Below w.heap.size w W)=>qWrong_c 15 ⟨by decide,by unfold In64;omega⟩ W (hr.next k))
   obtain⟨g1,g2⟩:=isR_good h1
   have HC:Hid (∀ W,Below w.heap.size w W->W.cell? ⟨rb,2,none⟩=some (.int .i64 64)/\rb<W.heap.size):=by
    obtain⟨off,cap,i,ov,h⟩:=hr
    intro W k
    have hh:=(h.box.next k).cell 2 _ rfl
    rw[h.op g1] at hh
    exact⟨hh,(h.box.next k).lt⟩
   have hP:Hid (∀ w',Turn [rb] w w'->Rr z w' rb tb LL c (wrR c 15 S) 64->MaP z w rb tb LL c false (wrR c 15 S) 64 (.returned (.bool false)) w'):=fun w' ht hr'=>⟨rfl,ht,hr'⟩
   generalize MaP z w rb tb LL c false (wrR c 15 S) 64=Post at *
   clear h1 g1 g2 hr
   go_enter Tryz.func31,Tryz.ntmps31
   go_wp2_with fail
   refine Calls.mono HI.out ?_
   rintro e w1 ⟨rfl,b1⟩
   obtain⟨c2,hl⟩:=HC.out _ b1
   go_wp2_with fail
   refine Calls.mono (HW.out _ b1) ?_
   rintro e w2 ⟨rfl,t2,r2⟩
   go_wp2_with fail
   exact hP.out _ ((Turn.of_below b1).trans t2 (fun _ hi=>.inl hi)) r2
 | false=>
   rw[h1] at HI
   have hP:Hid (∀ w',Below w.heap.size w w'->MaP z w rb tb LL c false (if false=true then wrR c 15 S else S) 64 (.returned (.bool false)) w'):=fun w' b=>⟨rfl,Turn.of_below b,hr.next b⟩
   generalize MaP z w rb tb LL c false (if false=true then wrR c 15 S else S) 64=Post at *
   clear hr h1
   go_enter Tryz.func31,Tryz.ntmps31
   go_wp2_with fail
   refine Calls.mono HI.out ?_
   rintro e w1 ⟨rfl,b1⟩
   go_wp2_with fail
   exact hP.out _ b1
set_option maxHeartbeats 2000000 in
theorem qMayRp_c {z rb tb:Nat}{LL:List Tk}{c:Int}{S:Sr}{o:Nat}(w:World)(hr:Rr z w rb tb LL c S (o+1)):
 Calls Tryz.prog 31 #[.pointer (some ⟨rb,0,none⟩),.string k_rp] w (MaP z w rb tb LL c (isR k_rp S) (mayR k_rp S) (if isR k_rp S=true then o else o+1)):=by
 have HI:=hid2 (qIs_c k_rp w hr)
 cases h1:isR k_rp S with
 | true=>
   rw[h1] at HI
   rw[if_pos rfl]
   obtain⟨g1,g2⟩:=isR_good h1
   obtain⟨off,cap,i,ov,h⟩:=hr
   have HX:=hid2 h
   have hov:ov=((o+1:Nat):Int):=h.op g1
   subst hov
   have hil:(i:Int)<(LL.length:Int):=by have:=h.il;omega
   have hmx:=h.mx
   have hle:=h.le
   have hdp:=h.dp
   have HB:=hid2 h.box
   have hP:Hid (∀ w',Turn [rb] w w'->Box w' rb (rrL tb off LL.length cap (i+1) (o:Nat) c (erI S.er) (erW S.er))->MaP z w rb tb LL c true (mayR k_rp S) o (.returned (.bool true)) w'):=fun w' ht hb=>⟨rfl,ht,off,cap,i+1,_,by
    unfold mayR
    rw[if_pos h1]
    exact HX.out.step hb ht (isT_kind g2) (fun _=>rfl) (by unfold In64;omega) (by omega)⟩
   generalize MaP z w rb tb LL c true (mayR k_rp S) o=Post at *
   generalize LL.length=n at *
   generalize erI S.er=er at *
   generalize erW S.er=wh at *
   have ko:((o+1:Nat):Int)-1=(o:Nat):=by omega
   clear h HX h1 g1 g2
   go_enter Tryz.func31,Tryz.ntmps31
   go_wp2_with fail
   refine Calls.mono HI.out ?_
   rintro e w1 ⟨rfl,b1⟩
   obtain⟨c0,c1,c2,c3,c4,c5,f0,f1,f2,f3,f4,f5⟩:=(HB.out.next b1).six
   have hl:=(HB.out.next b1).lt
   go_wp2_with fail
   refine hP.out _ (((Turn.of_below b1).andSet _ _ (.inl (by simp))).andSet _ _ (.inl (by simp))) ?_
   have hb:=((HB.out.next b1).set 2 (by simp) (.int .i64 (o:Nat))).set 1 (by simp) (.int .i64 ((i+1:Nat):Int))
   exact hb
 | false=>
   rw[h1] at HI
   have hP:Hid (∀ w',Below w.heap.size w w'->MaP z w rb tb LL c false (mayR k_rp S) (if false=true then o else o+1) (.returned (.bool false)) w'):=fun w' b=>⟨rfl,Turn.of_below b,by unfold mayR;rw[if_neg (by rw[h1];simp),if_neg (by simp)];exact hr.next b⟩
   generalize MaP z w rb tb LL c false (mayR k_rp S) (if false=true then o else o+1)=Post at *
   clear hr h1
   go_enter Tryz.func31,Tryz.ntmps31
   go_wp2_with fail
   refine Calls.mono HI.out ?_
   rintro e w1 ⟨rfl,b1⟩
   go_wp2_with fail
   exact hP.out _ b1
set_option maxHeartbeats 2000000 in
theorem qMayRb_c {z rb tb:Nat}{LL:List Tk}{c:Int}{S:Sr}{o:Nat}(w:World)(hr:Rr z w rb tb LL c S (o+1)):
 Calls Tryz.prog 31 #[.pointer (some ⟨rb,0,none⟩),.string k_rb] w (MaP z w rb tb LL c (isR k_rb S) (mayR k_rb S) (if isR k_rb S=true then o else o+1)):=by
 have HI:=hid2 (qIs_c k_rb w hr)
 cases h1:isR k_rb S with
 | true=>
   rw[h1] at HI
   rw[if_pos rfl]
   obtain⟨g1,g2⟩:=isR_good h1
   obtain⟨off,cap,i,ov,h⟩:=hr
   have HX:=hid2 h
   have hov:ov=((o+1:Nat):Int):=h.op g1
   subst hov
   have hil:(i:Int)<(LL.length:Int):=by have:=h.il;omega
   have hmx:=h.mx
   have hle:=h.le
   have hdp:=h.dp
   have HB:=hid2 h.box
   have hP:Hid (∀ w',Turn [rb] w w'->Box w' rb (rrL tb off LL.length cap (i+1) (o:Nat) c (erI S.er) (erW S.er))->MaP z w rb tb LL c true (mayR k_rb S) o (.returned (.bool true)) w'):=fun w' ht hb=>⟨rfl,ht,off,cap,i+1,_,by
    unfold mayR
    rw[if_pos h1]
    exact HX.out.step hb ht (isT_kind g2) (fun _=>rfl) (by unfold In64;omega) (by omega)⟩
   generalize MaP z w rb tb LL c true (mayR k_rb S) o=Post at *
   generalize LL.length=n at *
   generalize erI S.er=er at *
   generalize erW S.er=wh at *
   have ko:((o+1:Nat):Int)-1=(o:Nat):=by omega
   clear h HX h1 g1 g2
   go_enter Tryz.func31,Tryz.ntmps31
   go_wp2_with fail
   refine Calls.mono HI.out ?_
   rintro e w1 ⟨rfl,b1⟩
   obtain⟨c0,c1,c2,c3,c4,c5,f0,f1,f2,f3,f4,f5⟩:=(HB.out.next b1).six
   have hl:=(HB.out.next b1).lt
   go_wp2_with fail
   refine hP.out _ (((Turn.of_below b1).andSet _ _ (.inl (by simp))).andSet _ _ (.inl (by simp))) ?_
   have hb:=((HB.out.next b1).set 2 (by simp) (.int .i64 (o:Nat))).set 1 (by simp) (.int .i64 ((i+1:Nat):Int))
   exact hb
 | false=>
   rw[h1] at HI
   have hP:Hid (∀ w',Below w.heap.size w w'->MaP z w rb tb LL c false (mayR k_rb S) (if false=true then o else o+1) (.returned (.bool false)) w'):=fun w' b=>⟨rfl,Turn.of_below b,by unfold mayR;rw[if_neg (by rw[h1];simp),if_neg (by simp)];exact hr.next b⟩
   generalize MaP z w rb tb LL c false (mayR k_rb S) (if false=true then o else o+1)=Post at *
   clear hr h1
   go_enter Tryz.func31,Tryz.ntmps31
   go_wp2_with fail
   refine Calls.mono HI.out ?_
   rintro e w1 ⟨rfl,b1⟩
   go_wp2_with fail
   exact hP.out _ b1
theorem must_t {c:Int}{x:ByteArray}{S:Sr}(h:isR x S=true):mustR c x S=mayR x S:=by unfold mustR mayR;rw[if_pos h,if_pos h]
theorem must_f {c:Int}{x:ByteArray}{S:Sr}(h:isR x S=false):mustR c x S=wrR c 16 (mayR x S):=by unfold mustR mayR;rw[if_neg (by rw[h];simp),if_neg (by rw[h];simp)]
theorem open_t {c:Int}{x:ByteArray}{S:Sr}(h:isR x S=true):openR c x false S=mayR x S:=by unfold openR mayR;rw[if_pos h,if_pos h,if_neg (by simp)]
theorem open_f {c:Int}{x:ByteArray}{S:Sr}(h:isR x S=false):openR c x false S=wrR c 16 (mayR x S):=by unfold openR mayR;rw[if_neg (by rw[h];simp),if_neg (by rw[h];simp)]
theorem wr_twice {c a b:Int}{S:Sr}:wrR c a (wrR c b S)=wrR c b S:=by
 rw[wrR,if_neg (by rw[wr_good];simp)]
theorem open_full {c:Int}{x:ByteArray}{S:Sr}:openR c x true S=wrR c 16 (if isR x S=true then wrR c 15 S else S):=by
 unfold openR
 cases isR x S with
 | true=>rw[if_pos rfl,if_pos rfl,if_pos rfl,wr_twice]
 | false=>rw[if_neg (by simp),if_neg (by simp)]
set_option maxHeartbeats 2000000 in
theorem qMust_c {z rb tb:Nat}{LL:List Tk}{c:Int}{S:Sr}{o:Nat}(x:ByteArray)(hx:(x.toList==[40])=false/\(x.toList==[123])=false/\(x.toList==[41])=false/\(x.toList==[125])=false)(w:World)(hr:Rr z w rb tb LL c S o):
 Calls Tryz.prog 16 #[.pointer (some ⟨rb,0,none⟩),.string x] w (WrP z w rb tb LL c (mustR c x S) (o)):=by
 have HM:=hid2 (qMay_c x hx w hr)
 cases h1:isR x S with
 | true=>
   have hP:Hid (∀ w',Turn [rb] w w'->Rr z w' rb tb LL c (mayR x S) (o)->WrP z w rb tb LL c (mustR c x S) (o) (.returned (.tuple #[])) w'):=fun w' ht hr'=>⟨rfl,ht,(by rw[must_t h1];exact hr')⟩
   generalize WrP z w rb tb LL c (mustR c x S) (o)=Post at *
   generalize (mayR x S)=S1 at *
   rw[h1] at HM
   clear hr h1
   go_enter Tryz.func16,Tryz.ntmps16
   go_wp2_with fail
   refine Calls.mono HM.out ?_
   rintro e w1 ⟨rfl,t1,r1⟩
   go_wp2_with fail
   refine bodyPost_ret (v:=.tuple #[]) (by simp[results,Tryz.results16,go_sem]) rfl ?_
   exact hP.out _ t1 r1
 | false=>
   have HW:=hid2 (fun W (h:Rr z W rb tb LL c (mayR x S) (o))=>qWrong_c 16 ⟨by decide,by unfold In64;omega⟩ W h)
   have hP:Hid (∀ w',Turn [rb] w w'->Rr z w' rb tb LL c (wrR c 16 (mayR x S)) (o)->WrP z w rb tb LL c (mustR c x S) (o) (.returned (.tuple #[])) w'):=fun w' ht hr'=>⟨rfl,ht,(by rw[must_f h1];exact hr')⟩
   generalize WrP z w rb tb LL c (mustR c x S) (o)=Post at *
   generalize (mayR x S)=S1 at *
   rw[h1] at HM
   clear hr h1
   go_enter Tryz.func16,Tryz.ntmps16
   go_wp2_with fail
   refine Calls.mono HM.out ?_
   rintro e w1 ⟨rfl,t1,r1⟩
   go_wp2_with fail
   refine Calls.mono (HW.out _ r1) ?_
   rintro e w2 ⟨rfl,t2,r2⟩
   go_wp2_with fail
   refine bodyPost_ret (v:=.tuple #[]) (by simp[results,Tryz.results16,go_sem]) rfl ?_
   exact hP.out _ (turn_one t1 t2) r2
set_option maxHeartbeats 2000000 in
theorem qMustLp_c {z rb tb:Nat}{LL:List Tk}{c:Int}{S:Sr}{o:Nat}(ho:o≠64)(w:World)(hr:Rr z w rb tb LL c S o):
 Calls Tryz.prog 16 #[.pointer (some ⟨rb,0,none⟩),.string k_lp] w (WrP z w rb tb LL c (openR c k_lp false S) (o+1)):=by
 have HM:=hid2 (qMayLp_c ho w hr)
 cases h1:isR k_lp S with
 | true=>
   have hP:Hid (∀ w',Turn [rb] w w'->Rr z w' rb tb LL c (mayR k_lp S) (if isR k_lp S=true then o+1 else o)->WrP z w rb tb LL c (openR c k_lp false S) (o+1) (.returned (.tuple #[])) w'):=fun w' ht hr'=>⟨rfl,ht,(by rw[if_pos h1] at hr';rw[open_t h1];exact hr')⟩
   generalize WrP z w rb tb LL c (openR c k_lp false S) (o+1)=Post at *
   generalize (mayR k_lp S)=S1 at *
   generalize (if isR k_lp S=true then o+1 else o)=o1 at *
   rw[h1] at HM
   clear hr h1
   go_enter Tryz.func16,Tryz.ntmps16
   go_wp2_with fail
   refine Calls.mono HM.out ?_
   rintro e w1 ⟨rfl,t1,r1⟩
   go_wp2_with fail
   refine bodyPost_ret (v:=.tuple #[]) (by simp[results,Tryz.results16,go_sem]) rfl ?_
   exact hP.out _ t1 r1
 | false=>
   have HW:=hid2 (fun W (h:Rr z W rb tb LL c (mayR k_lp S) (if isR k_lp S=true then o+1 else o))=>qWrong_c 16 ⟨by decide,by unfold In64;omega⟩ W h)
   have hP:Hid (∀ w',Turn [rb] w w'->Rr z w' rb tb LL c (wrR c 16 (mayR k_lp S)) (if isR k_lp S=true then o+1 else o)->WrP z w rb tb LL c (openR c k_lp false S) (o+1) (.returned (.tuple #[])) w'):=fun w' ht hr'=>⟨rfl,ht,(by rw[if_neg (by rw[h1];simp)] at hr';rw[open_f h1];exact hr'.any wr_good (by obtain⟨_,_,_,_,hh⟩:=hr;have:=hh.dp;omega))⟩
   generalize WrP z w rb tb LL c (openR c k_lp false S) (o+1)=Post at *
   generalize (mayR k_lp S)=S1 at *
   generalize (if isR k_lp S=true then o+1 else o)=o1 at *
   rw[h1] at HM
   clear hr h1
   go_enter Tryz.func16,Tryz.ntmps16
   go_wp2_with fail
   refine Calls.mono HM.out ?_
   rintro e w1 ⟨rfl,t1,r1⟩
   go_wp2_with fail
   refine Calls.mono (HW.out _ r1) ?_
   rintro e w2 ⟨rfl,t2,r2⟩
   go_wp2_with fail
   refine bodyPost_ret (v:=.tuple #[]) (by simp[results,Tryz.results16,go_sem]) rfl ?_
   exact hP.out _ (turn_one t1 t2) r2
set_option maxHeartbeats 2000000 in
theorem qMustLpF_c {z rb tb:Nat}{LL:List Tk}{c:Int}{S:Sr}(w:World)(hr:Rr z w rb tb LL c S 64):
 Calls Tryz.prog 16 #[.pointer (some ⟨rb,0,none⟩),.string k_lp] w (WrP z w rb tb LL c (openR c k_lp true S) (64)):=by
 have HM:=hid2 (qMayLpF_c w hr)
 have HW:=hid2 (fun W (h:Rr z W rb tb LL c (if isR k_lp S=true then wrR c 15 S else S) (64))=>qWrong_c 16 ⟨by decide,by unfold In64;omega⟩ W h)
 have hP:Hid (∀ w',Turn [rb] w w'->Rr z w' rb tb LL c (wrR c 16 (if isR k_lp S=true then wrR c 15 S else S)) (64)->WrP z w rb tb LL c (openR c k_lp true S) (64) (.returned (.tuple #[])) w'):=fun w' ht hr'=>⟨rfl,ht,(by rw[open_full];exact hr')⟩
 generalize WrP z w rb tb LL c (openR c k_lp true S) (64)=Post at *
 generalize (if isR k_lp S=true then wrR c 15 S else S)=S1 at *
 clear hr
 go_enter Tryz.func16,Tryz.ntmps16
 go_wp2_with fail
 refine Calls.mono HM.out ?_
 rintro e w1 ⟨rfl,t1,r1⟩
 go_wp2_with fail
 refine Calls.mono (HW.out _ r1) ?_
 rintro e w2 ⟨rfl,t2,r2⟩
 go_wp2_with fail
 refine bodyPost_ret (v:=.tuple #[]) (by simp[results,Tryz.results16,go_sem]) rfl ?_
 exact hP.out _ (turn_one t1 t2) r2
set_option maxHeartbeats 2000000 in
theorem qMustLb_c {z rb tb:Nat}{LL:List Tk}{c:Int}{S:Sr}{o:Nat}(ho:o≠64)(w:World)(hr:Rr z w rb tb LL c S o):
 Calls Tryz.prog 16 #[.pointer (some ⟨rb,0,none⟩),.string k_lb] w (WrP z w rb tb LL c (openR c k_lb false S) (o+1)):=by
 have HM:=hid2 (qMayLb_c ho w hr)
 cases h1:isR k_lb S with
 | true=>
   have hP:Hid (∀ w',Turn [rb] w w'->Rr z w' rb tb LL c (mayR k_lb S) (if isR k_lb S=true then o+1 else o)->WrP z w rb tb LL c (openR c k_lb false S) (o+1) (.returned (.tuple #[])) w'):=fun w' ht hr'=>⟨rfl,ht,(by rw[if_pos h1] at hr';rw[open_t h1];exact hr')⟩
   generalize WrP z w rb tb LL c (openR c k_lb false S) (o+1)=Post at *
   generalize (mayR k_lb S)=S1 at *
   generalize (if isR k_lb S=true then o+1 else o)=o1 at *
   rw[h1] at HM
   clear hr h1
   go_enter Tryz.func16,Tryz.ntmps16
   go_wp2_with fail
   refine Calls.mono HM.out ?_
   rintro e w1 ⟨rfl,t1,r1⟩
   go_wp2_with fail
   refine bodyPost_ret (v:=.tuple #[]) (by simp[results,Tryz.results16,go_sem]) rfl ?_
   exact hP.out _ t1 r1
 | false=>
   have HW:=hid2 (fun W (h:Rr z W rb tb LL c (mayR k_lb S) (if isR k_lb S=true then o+1 else o))=>qWrong_c 16 ⟨by decide,by unfold In64;omega⟩ W h)
   have hP:Hid (∀ w',Turn [rb] w w'->Rr z w' rb tb LL c (wrR c 16 (mayR k_lb S)) (if isR k_lb S=true then o+1 else o)->WrP z w rb tb LL c (openR c k_lb false S) (o+1) (.returned (.tuple #[])) w'):=fun w' ht hr'=>⟨rfl,ht,(by rw[if_neg (by rw[h1];simp)] at hr';rw[open_f h1];exact hr'.any wr_good (by obtain⟨_,_,_,_,hh⟩:=hr;have:=hh.dp;omega))⟩
   generalize WrP z w rb tb LL c (openR c k_lb false S) (o+1)=Post at *
   generalize (mayR k_lb S)=S1 at *
   generalize (if isR k_lb S=true then o+1 else o)=o1 at *
   rw[h1] at HM
   clear hr h1
   go_enter Tryz.func16,Tryz.ntmps16
   go_wp2_with fail
   refine Calls.mono HM.out ?_
   rintro e w1 ⟨rfl,t1,r1⟩
   go_wp2_with fail
   refine Calls.mono (HW.out _ r1) ?_
   rintro e w2 ⟨rfl,t2,r2⟩
   go_wp2_with fail
   refine bodyPost_ret (v:=.tuple #[]) (by simp[results,Tryz.results16,go_sem]) rfl ?_
   exact hP.out _ (turn_one t1 t2) r2
set_option maxHeartbeats 2000000 in
theorem qMustLbF_c {z rb tb:Nat}{LL:List Tk}{c:Int}{S:Sr}(w:World)(hr:Rr z w rb tb LL c S 64):
 Calls Tryz.prog 16 #[.pointer (some ⟨rb,0,none⟩),.string k_lb] w (WrP z w rb tb LL c (openR c k_lb true S) (64)):=by
 have HM:=hid2 (qMayLbF_c w hr)
 have HW:=hid2 (fun W (h:Rr z W rb tb LL c (if isR k_lb S=true then wrR c 15 S else S) (64))=>qWrong_c 16 ⟨by decide,by unfold In64;omega⟩ W h)
 have hP:Hid (∀ w',Turn [rb] w w'->Rr z w' rb tb LL c (wrR c 16 (if isR k_lb S=true then wrR c 15 S else S)) (64)->WrP z w rb tb LL c (openR c k_lb true S) (64) (.returned (.tuple #[])) w'):=fun w' ht hr'=>⟨rfl,ht,(by rw[open_full];exact hr')⟩
 generalize WrP z w rb tb LL c (openR c k_lb true S) (64)=Post at *
 generalize (if isR k_lb S=true then wrR c 15 S else S)=S1 at *
 clear hr
 go_enter Tryz.func16,Tryz.ntmps16
 go_wp2_with fail
 refine Calls.mono HM.out ?_
 rintro e w1 ⟨rfl,t1,r1⟩
 go_wp2_with fail
 refine Calls.mono (HW.out _ r1) ?_
 rintro e w2 ⟨rfl,t2,r2⟩
 go_wp2_with fail
 refine bodyPost_ret (v:=.tuple #[]) (by simp[results,Tryz.results16,go_sem]) rfl ?_
 exact hP.out _ (turn_one t1 t2) r2
set_option maxHeartbeats 2000000 in
theorem qMustRp_c {z rb tb:Nat}{LL:List Tk}{c:Int}{S:Sr}{o:Nat}(w:World)(hr:Rr z w rb tb LL c S (o+1)):
 Calls Tryz.prog 16 #[.pointer (some ⟨rb,0,none⟩),.string k_rp] w (WrP z w rb tb LL c (mustR c k_rp S) (o)):=by
 have HM:=hid2 (qMayRp_c w hr)
 cases h1:isR k_rp S with
 | true=>
   have hP:Hid (∀ w',Turn [rb] w w'->Rr z w' rb tb LL c (mayR k_rp S) (if isR k_rp S=true then o else o+1)->WrP z w rb tb LL c (mustR c k_rp S) (o) (.returned (.tuple #[])) w'):=fun w' ht hr'=>⟨rfl,ht,(by rw[if_pos h1] at hr';rw[must_t h1];exact hr')⟩
   generalize WrP z w rb tb LL c (mustR c k_rp S) (o)=Post at *
   generalize (mayR k_rp S)=S1 at *
   generalize (if isR k_rp S=true then o else o+1)=o1 at *
   rw[h1] at HM
   clear hr h1
   go_enter Tryz.func16,Tryz.ntmps16
   go_wp2_with fail
   refine Calls.mono HM.out ?_
   rintro e w1 ⟨rfl,t1,r1⟩
   go_wp2_with fail
   refine bodyPost_ret (v:=.tuple #[]) (by simp[results,Tryz.results16,go_sem]) rfl ?_
   exact hP.out _ t1 r1
 | false=>
   have HW:=hid2 (fun W (h:Rr z W rb tb LL c (mayR k_rp S) (if isR k_rp S=true then o else o+1))=>qWrong_c 16 ⟨by decide,by unfold In64;omega⟩ W h)
   have hP:Hid (∀ w',Turn [rb] w w'->Rr z w' rb tb LL c (wrR c 16 (mayR k_rp S)) (if isR k_rp S=true then o else o+1)->WrP z w rb tb LL c (mustR c k_rp S) (o) (.returned (.tuple #[])) w'):=fun w' ht hr'=>⟨rfl,ht,(by rw[if_neg (by rw[h1];simp)] at hr';rw[must_f h1];exact hr'.any wr_good (by obtain⟨_,_,_,_,hh⟩:=hr;have:=hh.dp;omega))⟩
   generalize WrP z w rb tb LL c (mustR c k_rp S) (o)=Post at *
   generalize (mayR k_rp S)=S1 at *
   generalize (if isR k_rp S=true then o else o+1)=o1 at *
   rw[h1] at HM
   clear hr h1
   go_enter Tryz.func16,Tryz.ntmps16
   go_wp2_with fail
   refine Calls.mono HM.out ?_
   rintro e w1 ⟨rfl,t1,r1⟩
   go_wp2_with fail
   refine Calls.mono (HW.out _ r1) ?_
   rintro e w2 ⟨rfl,t2,r2⟩
   go_wp2_with fail
   refine bodyPost_ret (v:=.tuple #[]) (by simp[results,Tryz.results16,go_sem]) rfl ?_
   exact hP.out _ (turn_one t1 t2) r2
set_option maxHeartbeats 2000000 in
theorem qMustRb_c {z rb tb:Nat}{LL:List Tk}{c:Int}{S:Sr}{o:Nat}(w:World)(hr:Rr z w rb tb LL c S (o+1)):
 Calls Tryz.prog 16 #[.pointer (some ⟨rb,0,none⟩),.string k_rb] w (WrP z w rb tb LL c (mustR c k_rb S) (o)):=by
 have HM:=hid2 (qMayRb_c w hr)
 cases h1:isR k_rb S with
 | true=>
   have hP:Hid (∀ w',Turn [rb] w w'->Rr z w' rb tb LL c (mayR k_rb S) (if isR k_rb S=true then o else o+1)->WrP z w rb tb LL c (mustR c k_rb S) (o) (.returned (.tuple #[])) w'):=fun w' ht hr'=>⟨rfl,ht,(by rw[if_pos h1] at hr';rw[must_t h1];exact hr')⟩
   generalize WrP z w rb tb LL c (mustR c k_rb S) (o)=Post at *
   generalize (mayR k_rb S)=S1 at *
   generalize (if isR k_rb S=true then o else o+1)=o1 at *
   rw[h1] at HM
   clear hr h1
   go_enter Tryz.func16,Tryz.ntmps16
   go_wp2_with fail
   refine Calls.mono HM.out ?_
   rintro e w1 ⟨rfl,t1,r1⟩
   go_wp2_with fail
   refine bodyPost_ret (v:=.tuple #[]) (by simp[results,Tryz.results16,go_sem]) rfl ?_
   exact hP.out _ t1 r1
 | false=>
   have HW:=hid2 (fun W (h:Rr z W rb tb LL c (mayR k_rb S) (if isR k_rb S=true then o else o+1))=>qWrong_c 16 ⟨by decide,by unfold In64;omega⟩ W h)
   have hP:Hid (∀ w',Turn [rb] w w'->Rr z w' rb tb LL c (wrR c 16 (mayR k_rb S)) (if isR k_rb S=true then o else o+1)->WrP z w rb tb LL c (mustR c k_rb S) (o) (.returned (.tuple #[])) w'):=fun w' ht hr'=>⟨rfl,ht,(by rw[if_neg (by rw[h1];simp)] at hr';rw[must_f h1];exact hr'.any wr_good (by obtain⟨_,_,_,_,hh⟩:=hr;have:=hh.dp;omega))⟩
   generalize WrP z w rb tb LL c (mustR c k_rb S) (o)=Post at *
   generalize (mayR k_rb S)=S1 at *
   generalize (if isR k_rb S=true then o else o+1)=o1 at *
   rw[h1] at HM
   clear hr h1
   go_enter Tryz.func16,Tryz.ntmps16
   go_wp2_with fail
   refine Calls.mono HM.out ?_
   rintro e w1 ⟨rfl,t1,r1⟩
   go_wp2_with fail
   refine Calls.mono (HW.out _ r1) ?_
   rintro e w2 ⟨rfl,t2,r2⟩
   go_wp2_with fail
   refine bodyPost_ret (v:=.tuple #[]) (by simp[results,Tryz.results16,go_sem]) rfl ?_
   exact hP.out _ (turn_one t1 t2) r2
end Go.Proofs.YtecdfnpbcabdnaaGreatDoor

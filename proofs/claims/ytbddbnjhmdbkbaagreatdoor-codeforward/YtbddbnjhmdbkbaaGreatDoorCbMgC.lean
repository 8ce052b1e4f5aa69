import Derived.Test.YtbddbnjhmdbkbaaGreatDoorCbCoR
import Derived.BigQuiet
import Derived.Test.YtbddbnjhmdbkbaaGreatDoorCbMhN
import Derived.Laws.OwnMore
import Derived.Laws.EntriesVeiled
namespace Go.Proofs.YtbddbnjhmdbkbaaGreatDoor
open Go.RowKit
abbrev soL (b:Nat)(wn cn ln:Int):List Value:=[.slice (some ⟨b,0,none⟩) 33 33,.int .i64 wn,.int .i64 cn,.int .i64 ln]
def a0I (n k:Int):Bool:=decide (0<=n)&&decide (n<k)
def FtC (fn:Nat)(B:Int->Int->Int->Co->Bool):Prop:=∀ (wn cn ln:Int) (b sb:Nat) (c:Co) (ad:Option Addr) (n cap:Nat) (w:World),C64 wn->C64 cn->C64 ln->Box w sb (soL b wn cn ln)->a9U c->Calls Tryz.prog fn #[.pointer (some ⟨sb,0,none⟩),coV c (.slice ad n cap)] w fun e w'=>e=.returned (.bool (B wn cn ln c))/\Below w.heap.size w w'
set_option maxHeartbeats 1000000 in
theorem a2B (n k:Int)(w:World):Calls Tryz.prog 215 #[.int .i64 n,.int .i64 k] w fun e w'=>e=.returned (.bool (a0I n k))/\w'=w:=by
 unfold a0I
 by_cases h1:0<=n
 ·by_cases h2:n<k
  ·rw[decide_eq_true h1,decide_eq_true h2]
   go_enter Tryz.func215,Tryz.ntmps215
   go_wp2_with fail
   go_ret
   exact⟨rfl,rfl⟩
  ·rw[decide_eq_true h1,decide_eq_false h2]
   go_enter Tryz.func215,Tryz.ntmps215
   go_wp2_with fail
   go_ret
   exact⟨rfl,rfl⟩
 ·rw[decide_eq_false h1]
  go_enter Tryz.func215,Tryz.ntmps215
  go_wp2_with fail
  go_ret
  exact⟨rfl,rfl⟩
set_option maxHeartbeats 1000000 in
theorem a0o:FtC 134 fun _ _ _ c=>decide (c.n=0)&&(decide (c.m=0)):=by
 intro wn cn ln b sb c ad n cap w hw hc hl hb hf
 have B1:Hid (∀ o,Below w.heap.size w (w.alloc o)):=fun o=>(ZE _ _).alloc (ZC _) _
 clear hw hc hl hb
 by_cases h0:c.n=0
 case neg=>
  show Calls _ _ _ _ fun e w'=>e=.returned (.bool (decide (c.n=0)&&(decide (c.m=0))))/\_
  rw[decide_eq_false h0]
  have k0:(c.n==0)=false:=by simpa using h0
  go_enter Tryz.func134,Tryz.ntmps134
  go_wp2_with fail
  go_ret
  exact⟨rfl,B1.out _⟩
 by_cases h1:c.m=0
 case neg=>
  show Calls _ _ _ _ fun e w'=>e=.returned (.bool (decide (c.n=0)&&(decide (c.m=0))))/\_
  rw[decide_eq_true h0,decide_eq_false h1]
  have k1:(c.m==0)=false:=by simpa using h1
  go_enter Tryz.func134,Tryz.ntmps134
  go_wp2_with fail
  go_ret
  exact⟨rfl,B1.out _⟩
 show Calls _ _ _ _ fun e w'=>e=.returned (.bool (decide (c.n=0)&&(decide (c.m=0))))/\_
 rw[decide_eq_true h0,decide_eq_true h1]
 go_enter Tryz.func134,Tryz.ntmps134
 go_wp2_with fail
 go_ret
 exact⟨rfl,B1.out _⟩
set_option maxHeartbeats 1000000 in
theorem a9N:FtC 131 fun _ _ _ c=>decide (c.m=0):=by
 intro wn cn ln b sb c ad n cap w hw hc hl hb hf
 have B1:Hid (∀ o,Below w.heap.size w (w.alloc o)):=fun o=>(ZE _ _).alloc (ZC _) _
 clear hw hc hl hb
 by_cases h0:c.m=0
 case neg=>
  show Calls _ _ _ _ fun e w'=>e=.returned (.bool (decide (c.m=0)))/\_
  rw[decide_eq_false h0]
  have k0:(c.m==0)=false:=by simpa using h0
  go_enter Tryz.func131,Tryz.ntmps131
  go_wp2_with fail
  go_ret
  exact⟨rfl,B1.out _⟩
 show Calls _ _ _ _ fun e w'=>e=.returned (.bool (decide (c.m=0)))/\_
 rw[decide_eq_true h0]
 go_enter Tryz.func131,Tryz.ntmps131
 go_wp2_with fail
 go_ret
 exact⟨rfl,B1.out _⟩
set_option maxHeartbeats 1000000 in
theorem a6V:FtC 152 fun _ _ _ c=>decide (0<=c.n)&&(decide (1<=c.m)):=by
 intro wn cn ln b sb c ad n cap w hw hc hl hb hf
 have B1:Hid (∀ o,Below w.heap.size w (w.alloc o)):=fun o=>(ZE _ _).alloc (ZC _) _
 clear hw hc hl hb
 by_cases h0:0<=c.n
 case neg=>
  show Calls _ _ _ _ fun e w'=>e=.returned (.bool (decide (0<=c.n)&&(decide (1<=c.m))))/\_
  rw[decide_eq_false h0]
  go_enter Tryz.func152,Tryz.ntmps152
  go_wp2_with fail
  go_ret
  exact⟨rfl,B1.out _⟩
 by_cases h1:1<=c.m
 case neg=>
  show Calls _ _ _ _ fun e w'=>e=.returned (.bool (decide (0<=c.n)&&(decide (1<=c.m))))/\_
  rw[decide_eq_true h0,decide_eq_false h1]
  go_enter Tryz.func152,Tryz.ntmps152
  go_wp2_with fail
  go_ret
  exact⟨rfl,B1.out _⟩
 show Calls _ _ _ _ fun e w'=>e=.returned (.bool (decide (0<=c.n)&&(decide (1<=c.m))))/\_
 rw[decide_eq_true h0,decide_eq_true h1]
 go_enter Tryz.func152,Tryz.ntmps152
 go_wp2_with fail
 go_ret
 exact⟨rfl,B1.out _⟩
set_option maxHeartbeats 1000000 in
theorem a9b:FtC 133 fun _ _ _ c=>a0I c.n 2&&decide (c.m=0):=by
 intro wn cn ln b sb c ad n cap w hw hc hl hb hf
 have B1:Hid (∀ o,Below w.heap.size w (w.alloc o)):=fun o=>(ZE _ _).alloc (ZC _) _
 have HC:=a0a (fun W=>a2B c.n 2 W)
 clear hw hc hl hb
 show Calls _ _ _ _ fun e w'=>e=.returned (.bool (a0I c.n 2&&decide (c.m=0)))/\_
 generalize a0I c.n 2=r at *
 cases r with
 | false=>
   go_enter Tryz.func133,Tryz.ntmps133
   go_wp2_with fail
   refine ZF (HC.out _) ?_
   rintro e w1 ⟨rfl,rfl⟩
   go_wp2_with fail
   go_ret
   exact⟨rfl,by first | exact B1.out _ | exact(B1.out _).drew | exact a0B (B1.out _) _⟩
 | true=>
   by_cases h1:c.m=0
   ·rw[decide_eq_true h1]
    go_enter Tryz.func133,Tryz.ntmps133
    go_wp2_with fail
    refine ZF (HC.out _) ?_
    rintro e w1 ⟨rfl,rfl⟩
    go_wp2_with fail
    go_ret
    exact⟨rfl,by first | exact B1.out _ | exact(B1.out _).drew | exact a0B (B1.out _) _⟩
   ·rw[decide_eq_false h1]
    have k1:(c.m==0)=false:=by simpa using h1
    go_enter Tryz.func133,Tryz.ntmps133
    go_wp2_with fail
    refine ZF (HC.out _) ?_
    rintro e w1 ⟨rfl,rfl⟩
    go_wp2_with fail
    go_ret
    exact⟨rfl,by first | exact B1.out _ | exact(B1.out _).drew | exact a0B (B1.out _) _⟩
set_option maxHeartbeats 1000000 in
theorem a9d:FtC 136 fun wn _ _ c=>a0I c.n wn&&decide (c.m=0):=by
 intro wn cn ln b sb c ad n cap w hw hc hl hb hf
 have B1:Hid (∀ o,Below w.heap.size w (w.alloc o)):=fun o=>(ZE _ _).alloc (ZC _) _
 have HC:=a0a (fun W=>a2B c.n wn W)
 have s1:=hb.cell 1 _ rfl
 have sl:=hb.lt
 clear hw hc hl hb
 show Calls _ _ _ _ fun e w'=>e=.returned (.bool (a0I c.n wn&&decide (c.m=0)))/\_
 generalize a0I c.n wn=r at *
 cases r with
 | false=>
   go_enter Tryz.func136,Tryz.ntmps136
   go_wp2_with fail
   go_quiet (first|(go_at_call 215;refine Calls.quiet_of_same (HC.out _)))
   go_wp2_with fail
   go_ret
   exact⟨rfl,by first | exact B1.out _ | exact(B1.out _).drew | exact a0B (B1.out _) _⟩
 | true=>
   by_cases h1:c.m=0
   ·rw[decide_eq_true h1]
    go_enter Tryz.func136,Tryz.ntmps136
    go_wp2_with fail
    go_quiet (first|(go_at_call 215;refine Calls.quiet_of_same (HC.out _)))
    go_wp2_with fail
    go_ret
    exact⟨rfl,by first | exact B1.out _ | exact(B1.out _).drew | exact a0B (B1.out _) _⟩
   ·rw[decide_eq_false h1]
    have k1:(c.m==0)=false:=by simpa using h1
    go_enter Tryz.func136,Tryz.ntmps136
    go_wp2_with fail
    go_quiet (first|(go_at_call 215;refine Calls.quiet_of_same (HC.out _)))
    go_wp2_with fail
    go_ret
    exact⟨rfl,by first | exact B1.out _ | exact(B1.out _).drew | exact a0B (B1.out _) _⟩
set_option maxHeartbeats 1000000 in
theorem a7Y:FtC 138 fun _ cn _ c=>a0I c.n cn&&decide (c.m=0):=by
 intro wn cn ln b sb c ad n cap w hw hc hl hb hf
 have B1:Hid (∀ o,Below w.heap.size w (w.alloc o)):=fun o=>(ZE _ _).alloc (ZC _) _
 have HC:=a0a (fun W=>a2B c.n cn W)
 have s2:=hb.cell 2 _ rfl
 have sl:=hb.lt
 clear hw hc hl hb
 show Calls _ _ _ _ fun e w'=>e=.returned (.bool (a0I c.n cn&&decide (c.m=0)))/\_
 generalize a0I c.n cn=r at *
 cases r with
 | false=>
   go_enter Tryz.func138,Tryz.ntmps138
   go_wp2_with fail
   go_quiet (first|(go_at_call 215;refine Calls.quiet_of_same (HC.out _)))
   go_wp2_with fail
   go_ret
   exact⟨rfl,by first | exact B1.out _ | exact(B1.out _).drew | exact a0B (B1.out _) _⟩
 | true=>
   by_cases h1:c.m=0
   ·rw[decide_eq_true h1]
    go_enter Tryz.func138,Tryz.ntmps138
    go_wp2_with fail
    go_quiet (first|(go_at_call 215;refine Calls.quiet_of_same (HC.out _)))
    go_wp2_with fail
    go_ret
    exact⟨rfl,by first | exact B1.out _ | exact(B1.out _).drew | exact a0B (B1.out _) _⟩
   ·rw[decide_eq_false h1]
    have k1:(c.m==0)=false:=by simpa using h1
    go_enter Tryz.func138,Tryz.ntmps138
    go_wp2_with fail
    go_quiet (first|(go_at_call 215;refine Calls.quiet_of_same (HC.out _)))
    go_wp2_with fail
    go_ret
    exact⟨rfl,by first | exact B1.out _ | exact(B1.out _).drew | exact a0B (B1.out _) _⟩
set_option maxHeartbeats 1000000 in
theorem a6R:FtC 143 fun _ _ ln c=>a0I c.n ln&&decide (c.m=0):=by
 intro wn cn ln b sb c ad n cap w hw hc hl hb hf
 have B1:Hid (∀ o,Below w.heap.size w (w.alloc o)):=fun o=>(ZE _ _).alloc (ZC _) _
 have HC:=a0a (fun W=>a2B c.n ln W)
 have s3:=hb.cell 3 _ rfl
 have sl:=hb.lt
 clear hw hc hl hb
 show Calls _ _ _ _ fun e w'=>e=.returned (.bool (a0I c.n ln&&decide (c.m=0)))/\_
 generalize a0I c.n ln=r at *
 cases r with
 | false=>
   go_enter Tryz.func143,Tryz.ntmps143
   go_wp2_with fail
   go_quiet (first|(go_at_call 215;refine Calls.quiet_of_same (HC.out _)))
   go_wp2_with fail
   go_ret
   exact⟨rfl,by first | exact B1.out _ | exact(B1.out _).drew | exact a0B (B1.out _) _⟩
 | true=>
   by_cases h1:c.m=0
   ·rw[decide_eq_true h1]
    go_enter Tryz.func143,Tryz.ntmps143
    go_wp2_with fail
    go_quiet (first|(go_at_call 215;refine Calls.quiet_of_same (HC.out _)))
    go_wp2_with fail
    go_ret
    exact⟨rfl,by first | exact B1.out _ | exact(B1.out _).drew | exact a0B (B1.out _) _⟩
   ·rw[decide_eq_false h1]
    have k1:(c.m==0)=false:=by simpa using h1
    go_enter Tryz.func143,Tryz.ntmps143
    go_wp2_with fail
    go_quiet (first|(go_at_call 215;refine Calls.quiet_of_same (HC.out _)))
    go_wp2_with fail
    go_ret
    exact⟨rfl,by first | exact B1.out _ | exact(B1.out _).drew | exact a0B (B1.out _) _⟩
set_option maxHeartbeats 1000000 in
theorem a6K:FtC 140 fun _ _ _ c=>decide (1<=c.n)&&(decide (c.n<=3)&&(decide (c.m=1)||decide (c.m=2))):=by
 intro wn cn ln b sb c ad n cap w hw hc hl hb hf
 have B1:Hid (∀ o,Below w.heap.size w (w.alloc o)):=fun o=>(ZE _ _).alloc (ZC _) _
 clear hw hc hl hb
 by_cases h0:1<=c.n
 case neg=>
  show Calls _ _ _ _ fun e w'=>e=.returned (.bool (decide (1<=c.n)&&(decide (c.n<=3)&&(decide (c.m=1)||decide (c.m=2)))))/\_
  rw[decide_eq_false h0]
  go_enter Tryz.func140,Tryz.ntmps140
  go_wp2_with fail
  go_ret
  exact⟨rfl,B1.out _⟩
 by_cases h1:c.n<=3
 case neg=>
  show Calls _ _ _ _ fun e w'=>e=.returned (.bool (decide (1<=c.n)&&(decide (c.n<=3)&&(decide (c.m=1)||decide (c.m=2)))))/\_
  rw[decide_eq_true h0,decide_eq_false h1]
  go_enter Tryz.func140,Tryz.ntmps140
  go_wp2_with fail
  go_ret
  exact⟨rfl,B1.out _⟩
 by_cases h2:c.m=1
 case pos=>
  show Calls _ _ _ _ fun e w'=>e=.returned (.bool (decide (1<=c.n)&&(decide (c.n<=3)&&(decide (c.m=1)||decide (c.m=2)))))/\_
  rw[decide_eq_true h0,decide_eq_true h1,decide_eq_true h2]
  go_enter Tryz.func140,Tryz.ntmps140
  go_wp2_with fail
  go_ret
  exact⟨rfl,B1.out _⟩
 have k2:(c.m==1)=false:=by simpa using h2
 by_cases h3:c.m=2
 case pos=>
  show Calls _ _ _ _ fun e w'=>e=.returned (.bool (decide (1<=c.n)&&(decide (c.n<=3)&&(decide (c.m=1)||decide (c.m=2)))))/\_
  rw[decide_eq_true h0,decide_eq_true h1,decide_eq_false h2,decide_eq_true h3]
  go_enter Tryz.func140,Tryz.ntmps140
  go_wp2_with fail
  go_ret
  exact⟨rfl,B1.out _⟩
 have k3:(c.m==2)=false:=by simpa using h3
 show Calls _ _ _ _ fun e w'=>e=.returned (.bool (decide (1<=c.n)&&(decide (c.n<=3)&&(decide (c.m=1)||decide (c.m=2)))))/\_
 rw[decide_eq_true h0,decide_eq_true h1,decide_eq_false h2,decide_eq_false h3]
 go_enter Tryz.func140,Tryz.ntmps140
 go_wp2_with fail
 go_ret
 exact⟨rfl,B1.out _⟩
def a1L (op:Nat)(wn cn ln:Int)(c:Co):Bool:=
 if op=1 then decide (c.m=0)
 else if op=2 then a0I c.n 2&&decide (c.m=0)
 else if op=4 then a0I c.n wn&&decide (c.m=0)
 else if op=5 then a0I c.n cn&&decide (c.m=0)
 else if op=6 then decide (1<=c.n)&&(decide (c.n<=3)&&(decide (c.m=1)||decide (c.m=2)))
 else if op=7 then a0I c.n ln&&decide (c.m=0)
 else if op=13 then decide (0<=c.n)&&(decide (1<=c.m))
 else decide (c.n=0)&&(decide (c.m=0))
theorem a6U:∀ op,1<=op->op<=32->FtC (a6F.getD op 0) (a1L op):=
 a3w a9N a9b a0o a9d a7Y a6K a6R a0o a0o a0o a0o a0o a6V a0o a0o a0o a0o a0o a0o a0o a0o a0o a0o a0o a0o a0o a0o a0o a0o a0o a0o a0o
theorem a0R.shape {w:World}{v:Value}{ts:List Int}(h:a0R w v ts):∃ ad cap,v=.slice ad ts.length cap:=by
 obtain⟨ad,cap,hv,_⟩:=h
 exact⟨ad,cap,hv⟩
theorem a0R.open {w:World}{ad:Option Addr}{n cap:Nat}{ts:List Int}(h:a0R w (.slice ad n cap) ts)(hp:0<ts.length):∃ b off,ad=some ⟨b,off,none⟩/\b<w.heap.size/\∀ i (h:i<ts.length),w.cell? ⟨b,off+i,none⟩=some (.int .i64 ts[i]):=by
 obtain⟨ad',cap',hv,h⟩:=h
 cases hv
 rcases h with h | ⟨b,off,ha,hb,hc⟩
 ·rw[h] at hp;cases hp
 ·exact⟨b,off,ha,hb,hc⟩
set_option maxHeartbeats 2000000 in
theorem a7X (ss ts:List Int)(a1 a2:Option Addr)(k1 k2:Nat)(w:World)(h1:a0R w (.slice a1 ss.length k1) ss)(h2:a0R w (.slice a2 ts.length k2) ts)(hm:ss.length<=9223372036854775806):
 Calls Tryz.prog 214 #[.slice a1 ss.length k1,.slice a2 ts.length k2] w fun e w'=>e=.returned (.bool (decide (ss=ts)))/\Below w.heap.size w w':=by
 have HL:=a0a h1
 have HK:=a0a h2
 obtain⟨R,hR⟩:∃ R,Hid (R=decide (ss=ts)):=⟨_,rfl⟩
 rw[<-hR.out]
 obtain⟨N,hN⟩:∃ N,Hid (N=ss.length):=⟨_,rfl⟩
 obtain⟨N',hN'⟩:∃ N,Hid (N=ts.length):=⟨_,rfl⟩
 rw[<-hN.out] at HL hm ⊢
 rw[<-hN'.out] at HK ⊢
 clear h1 h2
 by_cases hl:N=N'
 case neg=>
  have hr:R=false:=by rw[hR.out];exact decide_eq_false (fun e=>hl (by rw[hN.out,hN'.out,e]))
  have k3:((N:Int) != (N':Int))=true:=by simp;omega
  subst hr
  go_enter Tryz.func214,Tryz.ntmps214
  go_wp2_with fail
  go_ret
  exact⟨rfl,ZE _ _⟩
 subst hl
 go_enter Tryz.func214,Tryz.ntmps214
 go_wp2_with fail
 go_loopw [13] (fun i wr=>∃ j:Nat,i=.int .i64 (j:Nat)/\j<=N/\Hid (∀ q (h1:q<ss.length) (h2:q<ts.length),q<j->ss[q]=ts[q])/\Hid (Below w.heap.size w wr)) (fun i _=>match i with | .int _ p=>((N:Int)-p).toNat | _=>0)
 case atStart=>exact⟨0,rfl,by omega,fun q _ _ h=>absurd h (by omega),ZE _ _⟩
 case round=>
  obtain⟨j,rfl,hj,HQ,HB⟩:=hrel
  by_cases hlt:j<N
  ·have hlt':(j:Int)<(N:Int):=by omega
   have h1:j<ss.length:=by rw[<-hN.out];exact hlt
   have h2:j<ts.length:=by rw[<-hN'.out];exact hlt
   obtain⟨b,off,rfl,hbl,hx⟩:=HL.out.open (by omega)
   obtain⟨b',off',rfl,hbl',hx'⟩:=HK.out.open (by omega)
   have c0:=(HB.out.cell (p:=⟨b,off+j,none⟩) hbl).trans (hx j h1)
   have e0:=(HB.out.cell (p:=⟨b',off'+j,none⟩) hbl').trans (hx' j h2)
   have lb:b<wr.heap.size:=ZA hbl HB.out.size
   have lb':b'<wr.heap.size:=ZA hbl' HB.out.size
   have HNe:Hid (ss[j]≠ts[j]->R=false):=fun h=>by
    rw[hR.out]
    exact decide_eq_false (fun e=>h (by subst e;rfl))
   have HEq:Hid (∀ x y,x=ss[j]->y=ts[j]->x=y->ss[j]=ts[j]):=fun x y hx hy h=>by rw[<-hx,<-hy,h]
   clear hx hx'
   obtain⟨x,hxx⟩:∃ x,Hid (x=ss[j]):=⟨_,a0a rfl⟩
   obtain⟨y,hyy⟩:∃ y,Hid (y=ts[j]):=⟨_,a0a rfl⟩
   rw[<-hxx.out] at c0 HNe
   rw[<-hyy.out] at e0 HNe
   by_cases hxy:x=y
   ·have k4:(x != y)=false:=by simpa using hxy
    have HXY:=a0a hxy
    clear hxy
    go_wp2_with fail
    go_quiet (fail)
    have HB1:=a0a (a0B HB.out nq)
    go_wp2_with fail
    go_roundw
    case rel=>exact⟨j+1,by go_num,by omega,(fun q g1 g2 hq=>by
     by_cases he:q=j
     ·subst he
      exact HEq.out _ _ hxx.out hyy.out HXY.out
     ·exact HQ.out q g1 g2 (by omega)),HB1⟩
    case measure=>simp;omega
   ·have k4:(x != y)=true:=by simpa using hxy
    obtain rfl:=HNe.out hxy
    go_wp2_with fail
    go_quiet (fail)
    have HB1:=a0a (a0B HB.out nq)
    go_wp2_with fail
    go_ret
    exact⟨rfl,HB1.out⟩
  ·have hlt':¬(j:Int)<(N:Int):=by omega
   have hr:R=true:=by
    rw[hR.out]
    exact decide_eq_true (List.ext_getElem (by rw[<-hN.out,<-hN'.out]) (fun q g1 g2=>HQ.out q g1 g2 (by have:=hN.out;omega)))
   subst hr
   go_wp2_with fail
   go_ret
   exact⟨rfl,HB.out⟩
def mkF (k:Int)(ts ss:List Int):Int:=if ss=ts then k else 0
set_option maxHeartbeats 1000000 in
theorem a9i (k:Int)(ts ss:List Int)(p q:Nat)(c:Co)(ad a1:Option Addr)(n cap k1:Nat)(w:World)(hm:MkF w p q k ts)(h1:a0R w (.slice a1 ss.length k1) ss)(hs:ss.length<=9223372036854775806):
 Calls Tryz.prog 213 #[coV c (.slice ad n cap),.slice a1 ss.length k1,.pointer (some ⟨p,0,none⟩),.pointer (some ⟨q,0,none⟩)] w fun e w'=>e=.returned (.int .i64 (mkF k ts ss))/\Below w.heap.size w w':=by
 obtain⟨v,hv1,hv2⟩:=hm.tt
 obtain⟨a2,k2,rfl⟩:=hv2.shape
 have lp:=hm.lp
 have lq:=hm.lq
 have kk:=hm.kk
 have B1:∀ o,Below w.heap.size w (w.alloc o):=fun o=>(ZE _ _).alloc (ZC _) _
 have HC:=a0a (fun o=>a7X ss ts a1 a2 k1 k2 (w.alloc o) (h1.next (B1 o)) (hv2.next (B1 o)) hs)
 have HA:=a0a B1
 clear hm h1 hv2 B1
 unfold mkF
 by_cases h:ss=ts
 ·have HD:Hid (decide (ss=ts)=true):=decide_eq_true h
  rw[if_pos h]
  simp only[HD.out] at HC
  have hl:ss.length=ts.length:=by rw[h]
  rw[<-hl] at HC hv1
  clear h hl
  go_enter Tryz.func213,Tryz.ntmps213
  go_wp2_with fail
  refine ZF (HC.out _) ?_
  rintro e w1 ⟨rfl,b1⟩
  have HB:=a0a (a0c (HA.out _) b1 (by simp))
  have kk1:=(HB.out.cell (p:=⟨q,0,none⟩) lq).trans kk
  have lq1:=ZA lq HB.out.size
  clear b1 kk hv1
  go_wp2_with fail
  go_ret
  exact⟨rfl,HB.out⟩
 ·rw[if_neg h]
  have HD:Hid (decide (ss=ts)=false):=decide_eq_false h
  simp only[HD.out] at HC
  clear h
  go_enter Tryz.func213,Tryz.ntmps213
  go_wp2_with fail
  refine ZF (HC.out _) ?_
  rintro e w1 ⟨rfl,b1⟩
  have HB:=a0a (a0c (HA.out _) b1 (by simp))
  clear b1 kk hv1
  go_wp2_with fail
  go_ret
  exact⟨rfl,HB.out⟩
def a0J (k:Nat)(ss:List Int):Int:=if ss.length=k/\ss.headD 0≠3/\∀ x,x∈ss->x=ss.headD 0 then ss.headD 0 else 0
theorem a2k {k:Nat}{ss:List Int}(h:¬(ss.length=k/\ss.headD 0≠3/\∀ x,x∈ss->x=ss.headD 0)):a0J k ss=0:=if_neg h
theorem a3q {k:Nat}{ss:List Int}(h:ss.length=k/\ss.headD 0≠3/\∀ x,x∈ss->x=ss.headD 0):a0J k ss=ss.headD 0:=if_pos h
theorem a6x {ss:List Int}(h:0<ss.length):ss[0]=ss.headD 0:=by
 cases ss with
 | nil=>cases h
 | cons x r=>rfl
set_option maxHeartbeats 2000000 in
theorem a3T (k:Nat)(hk:1<=k)(hk2:k<=9)(ss:List Int)(a1:Option Addr)(k1:Nat)(w:World)(h1:a0R w (.slice a1 ss.length k1) ss)(hm:ss.length<=9223372036854775806):
 Calls Tryz.prog 218 #[.slice a1 ss.length k1,.int .i64 (k:Nat)] w fun e w'=>e=.returned (.int .i64 (a0J k ss))/\Below w.heap.size w w':=by
 have HL:=a0a h1
 obtain⟨R,hR⟩:∃ R,Hid (R=a0J k ss):=⟨_,rfl⟩
 rw[<-hR.out]
 obtain⟨N,hN⟩:∃ N,Hid (N=ss.length):=⟨_,rfl⟩
 rw[<-hN.out] at HL hm ⊢
 clear h1
 by_cases hl:N=k
 case neg=>
  have hr:R=0:=by rw[hR.out];exact a2k (fun h=>hl (by rw[hN.out];exact h.1))
  have k3:((N:Int) != (k:Int))=true:=by simp;omega
  subst hr
  go_enter Tryz.func218,Tryz.ntmps218
  go_wp2_with fail
  go_ret
  exact⟨rfl,ZE _ _⟩
 subst hl
 have h0:0<ss.length:=by rw[<-hN.out];omega
 obtain⟨b,off,rfl,hbl,hx⟩:=HL.out.open h0
 have HX:=a0a hx
 have c0:=hx 0 h0
 rw[a6x h0,Nat.add_zero] at c0
 obtain⟨s0,hs0⟩:∃ s,Hid (s=ss.headD 0):=⟨_,rfl⟩
 rw[<-hs0.out] at c0
 have k3:((N:Int) != (N:Int))=false:=by simp
 have hN0:(0:Int)<(N:Int):=by omega
 clear hx
 by_cases h3:s0=3
 case pos=>
  have hr:R=0:=by rw[hR.out];exact a2k (fun h=>h.2.1 (by rw[<-hs0.out];exact h3))
  subst hr h3
  go_enter Tryz.func218,Tryz.ntmps218
  go_wp2_with fail
  go_ret
  exact⟨rfl,ZE _ _⟩
 have k4:(s0==3)=false:=by simpa using h3
 go_enter Tryz.func218,Tryz.ntmps218
 go_wp2_with fail
 go_loopw [19] (fun i wr=>∃ j:Nat,i=.int .i64 (j:Nat)/\j<=N/\Hid (∀ q (h1:q<ss.length),q<j->ss[q]=s0)/\wr=w) (fun i _=>match i with | .int _ p=>((N:Int)-p).toNat | _=>0)
 case atStart=>exact⟨0,rfl,by omega,fun q _ h=>absurd h (by omega),rfl⟩
 case round=>
  obtain⟨j,rfl,hj,HQ,rfl⟩:=hrel
  by_cases hlt:j<N
  ·have hlt':(j:Int)<(N:Int):=by omega
   have h1:j<ss.length:=by rw[<-hN.out];exact hlt
   have cj:=HX.out j h1
   have HNe:Hid (ss[j]≠s0->R=0):=fun h=>by
    rw[hR.out]
    exact a2k (fun hh=>h (by rw[hs0.out];exact hh.2.2 _ (List.getElem_mem h1)))
   obtain⟨x,hxx⟩:∃ x,Hid (x=ss[j]):=⟨_,a0a rfl⟩
   rw[<-hxx.out] at cj HNe
   by_cases hxy:x=s0
   ·have k5:(x != s0)=false:=by simpa using hxy
    have HXY:=a0a hxy
    clear hxy
    go_wp2_with fail
    go_roundw
    case rel=>exact⟨j+1,by go_num,by omega,(fun q g1 hq=>by
     by_cases he:q=j
     ·subst he
      rw[<-hxx.out]
      exact HXY.out
     ·exact HQ.out q g1 (by omega)),by first | rfl | trivial⟩
    case measure=>simp;omega
   ·have k5:(x != s0)=true:=by simpa using hxy
    obtain rfl:=HNe.out hxy
    go_wp2_with fail
    go_ret
    exact⟨rfl,ZE _ _⟩
  ·have hlt':¬(j:Int)<(N:Int):=by omega
   have hr:R=s0:=by
    rw[hR.out,hs0.out]
    refine a3q ⟨hN.out.symm,by rw[<-hs0.out];exact h3,fun x hx=>?_⟩
    obtain⟨q,hq,rfl⟩:=List.getElem_of_mem hx
    rw[<-hs0.out]
    exact HQ.out q hq (by have:=hN.out;omega)
   subst hr
   go_wp2_with fail
   go_ret
   exact⟨rfl,ZE _ _⟩
def StC (fn:Nat)(F:Co->List Int->Int):Prop:=∀ (c:Co) (ss:List Int) (v:Value) (a1:Option Addr) (k1:Nat) (w:World),a0p w c v->ss.length=c.parts.length->ss.length<=8192->a0R w (.slice a1 ss.length k1) ss->ss.length<=k1->k1<=9223372036854775807->Calls Tryz.prog fn #[coV c v,.slice a1 ss.length k1] w fun e w'=>e=.returned (.int .i64 (F c ss))/\Below w.heap.size w w'
set_option maxHeartbeats 1000000 in
set_option maxRecDepth 20000 in
theorem a9h:StC 144 fun _ ss=>a0J 1 ss:=by
 intro c ss v a1 k1 w hs hlen hl h1 hk hk2
 clear hlen hk hk2
 obtain⟨ad,cap,rfl,-,-⟩:=hs.parts.shape
 have B1:∀ o,Below w.heap.size w (w.alloc o):=fun o=>(ZE _ _).alloc (ZC _) _
 have HC:=a0a (fun o=>a3T 1 (by omega) (by omega) ss a1 k1 (w.alloc o) (h1.next (B1 o)) (by omega))
 have HA:=a0a B1
 clear h1 B1 hs
 show Calls _ _ _ _ fun e w'=>e=.returned (.int .i64 (a0J 1 ss))/\_
 generalize a0J 1 ss=r at *
 go_enter Tryz.func144,Tryz.ntmps144
 go_wp2_with fail
 refine ZF (HC.out _) ?_
 rintro e w1 ⟨rfl,b1⟩
 have HB:=a0a (a0c (HA.out _) b1 (by simp))
 clear b1
 go_wp2_with fail
 go_ret
 exact⟨rfl,HB.out⟩
set_option maxHeartbeats 1000000 in
set_option maxRecDepth 20000 in
theorem a6Y:StC 168 fun _ ss=>a0J 2 ss:=by
 intro c ss v a1 k1 w hs hlen hl h1 hk hk2
 clear hlen hk hk2
 obtain⟨ad,cap,rfl,-,-⟩:=hs.parts.shape
 have B1:∀ o,Below w.heap.size w (w.alloc o):=fun o=>(ZE _ _).alloc (ZC _) _
 have HC:=a0a (fun o=>a3T 2 (by omega) (by omega) ss a1 k1 (w.alloc o) (h1.next (B1 o)) (by omega))
 have HA:=a0a B1
 clear h1 B1 hs
 show Calls _ _ _ _ fun e w'=>e=.returned (.int .i64 (a0J 2 ss))/\_
 generalize a0J 2 ss=r at *
 go_enter Tryz.func168,Tryz.ntmps168
 go_wp2_with fail
 refine ZF (HC.out _) ?_
 rintro e w1 ⟨rfl,b1⟩
 have HB:=a0a (a0c (HA.out _) b1 (by simp))
 clear b1
 go_wp2_with fail
 go_ret
 exact⟨rfl,HB.out⟩
set_option maxHeartbeats 1000000 in
set_option maxRecDepth 20000 in
theorem a9j:StC 141 fun c ss=>if ss=[] then c.m else 0:=by
 intro c ss v a1 k1 w hs hlen hl h1 hk hk2
 clear hlen hk hk2
 have hfit:=hs.fit
 obtain⟨ad,cap,rfl,-,-⟩:=hs.parts.shape
 have B1:Hid (∀ o,Below w.heap.size w (w.alloc o)):=fun o=>(ZE _ _).alloc (ZC _) _
 have hm:=hfit.m
 unfold C64 at hm
 clear hs h1 hfit
 by_cases h:ss=[]
 ·subst h
  show Calls _ _ _ _ fun e w'=>e=.returned (.int .i64 c.m)/\_
  simp only[List.length_nil] at *
  go_enter Tryz.func141,Tryz.ntmps141
  go_wp2_with fail
  go_ret
  exact⟨rfl,B1.out _⟩
 ·have hp:0<ss.length:=List.length_pos_iff.2 h
  show Calls _ _ _ _ fun e w'=>e=.returned (.int .i64 (if ss=[] then c.m else 0))/\_
  rw[if_neg h]
  clear h
  generalize ss.length=N at *
  have k0:((N:Int) != 0)=true:=by simp;omega
  go_enter Tryz.func141,Tryz.ntmps141
  go_wp2_with fail
  go_ret
  exact⟨rfl,B1.out _⟩
def a2c (ss:List Int):Int:=if ss.headD 0=2 then a0J 2 ss.tail else 0
theorem a6t {w:World}{b off k:Nat}{x:Int}{r:List Int}(h:a0R w (.slice (some ⟨b,off,none⟩) (x::r).length k) (x::r))(k':Nat):a0R w (.slice (some ⟨b,off+1,none⟩) r.length k') r:=by
 obtain⟨b',off',ha,hb,hc⟩:=h.open (by simp)
 cases ha
 refine⟨_,_,rfl,.inr ⟨b,off+1,rfl,hb,fun i hi=>?_⟩⟩
 have:=hc (i+1) (by simpa using hi)
 rw[show off+1+i=off+(i+1) by omega]
 simpa using this
set_option maxHeartbeats 1000000 in
set_option maxRecDepth 20000 in
theorem a7c:StC 170 fun _ ss=>a2c ss:=by
 intro c ss v a1 k1 w hs hlen hl h1 hk hk2
 clear hlen
 obtain⟨ad,cap,rfl,-,-⟩:=hs.parts.shape
 have B1:∀ o,Below w.heap.size w (w.alloc o):=fun o=>(ZE _ _).alloc (ZC _) _
 have HA:=a0a B1
 cases ss with
 | nil=>
   show Calls _ _ _ _ fun e w'=>e=.returned (.int .i64 0)/\_
   clear hs h1
   simp only[List.length_nil] at *
   go_enter Tryz.func170,Tryz.ntmps170
   go_wp2_with fail
   go_ret
   exact⟨rfl,HA.out _⟩
 | cons x r=>
   obtain⟨b,off,rfl,hb,hc⟩:=h1.open (by simp)
   have c0:=hc 0 (by simp)
   simp only[Nat.add_zero,List.getElem_cons_zero] at c0
   have HT:=a0a (fun k'=>a6t h1 k')
   have HC:Hid (∀ o a k',(r=[]\/a=some ⟨b,off+1,none⟩)->Calls Tryz.prog 218 #[.slice a r.length k',.int .i64 2] (w.alloc o) fun e w'=>e=.returned (.int .i64 (a0J 2 r))/\Below (w.alloc o).heap.size (w.alloc o) w'):=fun o a k' ha=>a3T 2 (by omega) (by omega) r a k' (w.alloc o) (by
    rcases ha with ha | ha
    ·subst ha;exact⟨_,_,rfl,.inl rfl⟩
    ·subst ha;exact(HT.out k').next (B1 o)) (by simp at hl;omega)
   simp only[List.length_cons] at *
   clear hs h1 hc B1 HT
   show Calls _ _ _ _ fun e w'=>e=.returned (.int .i64 (if x=2 then a0J 2 r else 0))/\_
   generalize hr:r.length=N at *
   have k0:((((N+1:Nat):Int))==0)=false:=by simp;omega
   have k0':(((N:Int)+1)==0)=false:=by simp;omega
   have hN0:(0:Int)<(N:Int)+1:=by omega
   by_cases h2:x=2
   ·subst h2
    rw[if_pos rfl]
    generalize a0J 2 r=rr at *
    go_enter Tryz.func170,Tryz.ntmps170
    go_wp2_with fail
    all_goals try simp only[Nat.add_sub_cancel]
    ·rename_i hk1
     refine ZF (HC.out _ _ _ (.inl (List.eq_nil_of_length_eq_zero (by omega)))) ?_
     rintro e w1 ⟨rfl,b1⟩
     have HB:=a0a (a0c (HA.out _) b1 (by simp))
     clear b1
     go_wp2_with fail
     go_ret
     exact⟨rfl,HB.out⟩
    ·refine ZF (HC.out _ _ _ (.inr rfl)) ?_
     rintro e w1 ⟨rfl,b1⟩
     have HB:=a0a (a0c (HA.out _) b1 (by simp))
     clear b1
     go_wp2_with fail
     go_ret
     exact⟨rfl,HB.out⟩
   ·rw[if_neg h2]
    have k2:(x != 2)=true:=by simpa using h2
    go_enter Tryz.func170,Tryz.ntmps170
    go_wp2_with fail
    go_ret
    exact⟨rfl,HA.out _⟩
def a1K (lad:Co->List Int->Int)(op:Nat)(c:Co)(ss:List Int):Int:=match mkT.getD op none with
 | some x=>mkF x.1 x.2 ss
 | none=>if op=6 then (if ss=[] then c.m else 0) else if op=7 then a0J 1 ss else if op=27 then a0J 2 ss else if op=28 then a2c ss else lad c ss
def a0e (lad:Co->List Int->Int)(wn cn ln:Int):Co->Int
 | ⟨k,n,m,ps⟩=>if 1<=k/\k<=32 then (if a1L k.toNat wn cn ln ⟨k,n,m,ps⟩=true then (if (ps.map (a0e lad wn cn ln)).contains 0=true then 0 else a1K lad k.toNat ⟨k,n,m,ps⟩ (ps.map (a0e lad wn cn ln))) else 0) else 0
theorem a0X (lad:Co->List Int->Int)(wn cn ln:Int)(c:Co):a0e lad wn cn ln c=if 1<=c.op/\c.op<=32 then (if a1L c.op.toNat wn cn ln c=true then (if (c.parts.map (a0e lad wn cn ln)).contains 0=true then 0 else a1K lad c.op.toNat c (c.parts.map (a0e lad wn cn ln))) else 0) else 0:=by
 cases c
 rw[a0e]
def a9Z (lad:Co->List Int->Int)(wn cn ln:Int)(t:Co):Prop:=∀ (v:Value) (b sb:Nat) (w:World),a0p w t v->a0b t<=8192->Box w sb (soL b wn cn ln)->a2l w b->Calls Tryz.prog 81 #[.pointer (some ⟨sb,0,none⟩),coV t v] w fun e w'=>e=.returned (.int .i64 (a0e lad wn cn ln t))/\Below w.heap.size w w'
theorem a7z:(Tryz.prog.info? 3).map (fun i=>(i.zero,i.size,i.bytes))=some (some (.int .i64 0),1,8):=by kernel_rfl
theorem a7U {w:World}{B size:Nat}{e:TypeId}{v:Value}{n:Nat}{xs:List Value}(h:w.ownsRow B e size v n xs):(v=.slice none 0 0/\n=0)\/∃ g cap,v=.slice (some ⟨g,0,none⟩) n cap/\B<=g/\Box w g xs:=by
 obtain⟨h1,⟨h2,h3⟩ | ⟨g,cap,cur,h2,h3,h4,h5,h6,h7,h8⟩⟩:=h
 ·exact .inl ⟨h2,h3⟩
 ·exact .inr ⟨g,cap,h2,h3,(Box.ofBlock h4).part (by rw[<-h8];exact List.take_prefix _ _)⟩
def Ent (f:Nat):Prop:=∀ (args:Array Value) (W:World),(callFunc f args).run Tryz.prog W=.ok (.enter f args) W
theorem a7N:∀ k,1<=k->k<=32->Ent (a6F.getD k 0):=by
 apply a3w (p:=fun k=>Ent (a6F.getD k 0))<;>(intro args W;kernel_rfl)
theorem a6m:∀ k:Fin 33,1<=k.val->mkT.getD k.val none=none->k.val=6\/k.val=7\/k.val=27\/k.val=28\/k.val=32:=by decide
theorem a7M {w:World}{k f:Nat}{q:Array Value}(h1:1<=k)(h2:k<=32)(h:SoF w k (.func (.func f) #[] q)):Ent f:=by
 unfold SoF at h
 split at h
 ·obtain⟨p,q',e,_⟩:=h
  cases e
  intro args W
  kernel_rfl
 ·next hm=>
  rcases a6m ⟨k,by omega⟩ h1 hm with e | e | e | e | e<;>(dsimp only at e;subst e;cases h;intro args W;kernel_rfl)
theorem SoF.shape {w:World}{op:Nat}{fs:Value}(h:SoF w op fs):∃ f c,fs=.func (.func f) #[] c:=by
 unfold SoF at h
 split at h
 ·obtain⟨p,q,rfl,_⟩:=h;exact⟨_,_,rfl⟩
 ·exact⟨_,_,h⟩
theorem WoF.shape {w:World}{op:Nat}{fs:Value}(h:WoF w op fs):∃ f c,fs=.func (.func f) #[] c:=by
 unfold WoF at h
 split at h
 ·exact⟨_,_,h⟩
 ·obtain⟨p,rfl,_⟩:=h;exact⟨_,_,rfl⟩
 ·obtain⟨p,rfl,_⟩:=h;exact⟨_,_,rfl⟩
theorem a7y {w:World}{g:Nat}{xs:List Int}(h:Box w g (a5U xs))(cap:Nat):a0R w (.slice (some ⟨g,0,none⟩) xs.length cap) xs:=
 ⟨_,_,rfl,.inr ⟨g,0,rfl,h.lt,fun i hi=>by rw[Nat.zero_add];exact a5n h (List.getElem?_eq_getElem hi)⟩⟩
theorem a5G (lad:Co->List Int->Int)(HLad:StC 175 lad){k:Nat}(h1:1<=k)(h2:k<=32){f:Nat}{q:Array Value}(c:Co)(ss:List Int)(v:Value)(a1:Option Addr)(k1:Nat)(w:World)(h:SoF w k (.func (.func f) #[] q))(hs:a0p w c v)(hl:ss.length=c.parts.length)(hm:ss.length<=8192)(hi:a0R w (.slice a1 ss.length k1) ss)(hk:ss.length<=k1)(hc:k1<=9223372036854775807):
 Calls Tryz.prog f (#[coV c v,.slice a1 ss.length k1]++q) w fun e w'=>e=.returned (.int .i64 (a1K lad k c ss))/\Below w.heap.size w w':=by
 unfold SoF at h
 unfold a1K
 cases hx:mkT.getD k none with
 | some x=>
   rw[hx] at h
   obtain⟨p,q',e,hM⟩:=h
   cases e
   obtain⟨ad,cap,rfl,-,-⟩:=hs.parts.shape
   exact a9i x.1 x.2 ss p q' c ad a1 _ cap k1 w hM hi (by omega)
 | none=>
   rw[hx] at h
   have hh:(Value.func (.func f) #[] q)=.func (.func (soT.getD k 0)) #[] #[]:=h
   simp only[Value.func.injEq,Fn.func.injEq,true_and] at hh
   obtain⟨rfl,rfl⟩:=hh
   rcases a6m ⟨k,by omega⟩ h1 hx with e | e | e | e | e<;>dsimp only at e<;>subst e
   ·exact a9j c ss v a1 k1 w hs hl hm hi hk hc
   ·exact a9h c ss v a1 k1 w hs hl hm hi hk hc
   ·exact a6Y c ss v a1 k1 w hs hl hm hi hk hc
   ·exact a7c c ss v a1 k1 w hs hl hm hi hk hc
   ·exact HLad c ss v a1 k1 w hs hl hm hi hk hc
set_option maxHeartbeats 4000000 in
set_option maxRecDepth 20000 in
theorem a5I (lad:Co->List Int->Int)(HLad:StC 175 lad)(wn cn ln:Int)(h64:C64 wn/\C64 cn/\C64 ln)(t:Co)(ih:∀ x,x∈t.parts->a9Z lad wn cn ln x):a9Z lad wn cn ln t:=by
 intro v b sb w hs hn hb hr
 obtain⟨op,tn,tm,ps⟩:=t
 have HS:=a0a hs
 have HL:=a0a (show CAt w v ps from hs.parts)
 have HI:=a0a (show ∀ x,x∈ps->a9Z lad wn cn ln x from ih)
 have HBx:=a0a hb
 have HRw:=a0a hr
 have HFt:=a0a hs.fit
 obtain⟨ad,cap,rfl,hc1,hc2⟩:=HL.out.shape
 have hlen:ps.length<=8192:=by
  have h1:=a1c ps
  rw[a0q] at hn
  have h2:1+a0f ps<=8192:=hn
  omega
 have hnp:Hid (∀ x,x∈ps->a0b x<=8192):=fun x hx=>by
  have:=a4O (t:=⟨op,tn,tm,ps⟩) hx
  omega
 obtain⟨R,hR⟩:∃ R,Hid (R=a0e lad wn cn ln ⟨op,tn,tm,ps⟩):=⟨_,rfl⟩
 rw[<-hR.out]
 obtain⟨N,hN⟩:∃ N,Hid (N=ps.length):=⟨_,rfl⟩
 rw[<-hN.out] at hc1 HL hlen HS ⊢
 have s0:=hb.cell 0 _ rfl
 have sl:=hb.lt
 have hbl:=hr.lt
 clear hs ih hn
 show Calls Tryz.prog 81 #[.pointer (some ⟨sb,0,none⟩),.agg #[.int .i64 op,.int .i64 tn,.int .i64 tm,.slice ad N cap]] w _
 by_cases ho:1<=op/\op<=32
 case neg=>
  have h0:R=0:=by rw[hR.out,a0X];exact if_neg ho
  subst h0
  have HA:Hid (∀ o,Below w.heap.size w (w.alloc o)):=fun o=>(ZE _ _).alloc (ZC _) _
  by_cases h1:op<1
  ·go_enter Tryz.func81,Tryz.ntmps81
   go_wp2_with fail
   go_ret
   exact⟨rfl,HA.out _⟩
  ·have h2:32<op:=by omega
   go_enter Tryz.func81,Tryz.ntmps81
   go_wp2_with fail
   go_ret
   exact⟨rfl,HA.out _⟩
 obtain⟨k,rfl⟩:∃ k:Nat,op=(k:Int):=⟨op.toNat,by omega⟩
 have hk1:1<=k:=by omega
 have hk2:k<=32:=by omega
 have hR1:Hid (R=if a1L k wn cn ln ⟨k,tn,tm,ps⟩=true then (if (ps.map (a0e lad wn cn ln)).contains 0=true then 0 else a1K lad k ⟨k,tn,tm,ps⟩ (ps.map (a0e lad wn cn ln))) else 0):=by
  show _=_
  rw[hR.out,a0X]
  exact if_pos ho
 obtain⟨fs,fw,g1,g2,g3,g4,g5⟩:=hr.row k hk1 hk2
 obtain⟨f1,q1,rfl⟩:=g4.shape
 obtain⟨f2,q2,rfl⟩:=g5.shape
 have HF:=a0a (fun W (hb:Box W sb (soL b wn cn ln))=>a6U k hk1 hk2 wn cn ln b sb ⟨k,tn,tm,ps⟩ ad N cap W h64.1 h64.2.1 h64.2.2 hb HFt.out)
 have G4:=a0a g4
 have hEf:=a7N k hk1 hk2
 have hEs:=a7M hk1 hk2 G4.out
 unfold Ent at hEf hEs
 generalize a6F.getD k 0=ff at *
 have hi1:¬(k:Int)<1:=by omega
 have hi2:¬ 32<(k:Int):=by omega
 have hi3:(k:Int)<33:=by omega
 clear g4 g5 hb
 generalize a1L k wn cn ln ⟨k,tn,tm,ps⟩=fb at *
 clear ho hR hr
 have X0:=Box.new w (coL ⟨k,tn,tm,ps⟩ (.slice ad N cap)) 30
 have ka:=(ZE w.heap.size w).alloc (ZC _) (.cells (coL ⟨k,tn,tm,ps⟩ (.slice ad N cap)).toArray 30)
 have t0:=(ka.cell (p:=⟨sb,0,none⟩) sl).trans s0
 have t1:=(ka.cell (p:=⟨b,k*3,none⟩) hbl).trans g1
 have t2:=(ka.cell (p:=⟨b,k*3+1,none⟩) hbl).trans g2
 have t3:=(ka.cell (p:=⟨b,k*3+2,none⟩) hbl).trans g3
 have c0:=X0.cell 0 _ rfl
 have x0:=X0.lt
 have k0:b<(w.alloc (.cells (coL ⟨k,tn,tm,ps⟩ (.slice ad N cap)).toArray 30)).heap.size:=ZA hbl ka.size
 have k1:sb<(w.alloc (.cells (coL ⟨k,tn,tm,ps⟩ (.slice ad N cap)).toArray 30)).heap.size:=ZA sl ka.size
 have HX0:=a0a X0
 have HKa:=a0a ka
 clear s0 g1 g2 g3 X0 ka
 go_enter Tryz.func81,Tryz.ntmps81
 go_wp2_with fail
 generalize hW0:w.alloc _=w0 at *
 clear hW0
 go_region_held3 (fun w'=>w'.cell? ⟨sb,0,none⟩=some (.slice (some ⟨b,0,none⟩) 33 33)/\w'.cell? ⟨w.heap.size,0,none⟩=some (.int .i64 (k:Int))/\(w'.cell? ⟨b,k*3,none⟩=some (.func (.func ff) #[] #[])/\w'.cell? ⟨b,k*3+1,none⟩=some (.func (.func f1) #[] q1)/\w'.cell? ⟨b,k*3+2,none⟩=some (.func (.func f2) #[] q2))) (simp[go_sem, *]) (fail)
 have Z0:=(Box.new w0 [.func (.func ff) #[] #[],.func (.func f1) #[] q1,.func (.func f2) #[] q2] 201).next (a0B (ZE _ _) 1)
 have b1:=a0B ((ZE w0.heap.size w0).alloc (ZC _) (.cells [.func (.func ff) #[] #[],.func (.func f1) #[] q1,.func (.func f2) #[] q2].toArray 201)) 1
 change Box (w0.alloc (.cells #[.func (.func ff) #[] #[],.func (.func f1) #[] q1,.func (.func f2) #[] q2] 201)).drew w0.heap.size _ at Z0
 change Below w0.heap.size w0 (w0.alloc (.cells #[.func (.func ff) #[] #[],.func (.func f1) #[] q1,.func (.func f2) #[] q2] 201)).drew at b1
 generalize (w0.alloc (.cells #[.func (.func ff) #[] #[],.func (.func f1) #[] q1,.func (.func f2) #[] q2] 201)).drew=w1 at *
 have HX1:=a0a (HX0.out.next b1)
 have HB1:=kb HKa b1
 have HZ:=a0a Z0
 have z0:=Z0.cell 0 _ rfl
 have z1:=Z0.lt
 obtain⟨c0,c1,c2,c3⟩:=Box.c4 HX1.out
 have x1:=HX1.out.lt
 obtain⟨g0,hg0⟩:∃ g0,g0=w0.heap.size:=⟨_,rfl⟩
 have hg1:Hid (w.heap.size<g0):=by rw[hg0];exact x0
 rw[<-hg0] at HZ z0 z1 ⊢
 clear t0 t1 t2 t3 x0 k0 k1 HX0 HKa Z0 b1 hg0
 have HFc:=a0a (HF.out w1 (HBx.out.next HB1.out))
 clear HF
 go_wp2_with fail
 refine ZF HFc.out ?_
 rintro e w2 ⟨rfl,b2⟩
 have HB2:=kb HB1 b2
 have HX2:=a0a (HX1.out.next b2)
 have HZ2:=a0a (HZ.out.next b2)
 clear b2 HFc HB1 HX1 HZ c0 c1 c2 c3 x1 z0 z1 hEf
 cases fb with
 | false=>
   have h0:R=0:=hR1.out
   subst h0
   go_wp2_with fail
   go_ret
   exact⟨rfl,HB2.out⟩
 | true=>
   have hR2:Hid (R=(if (ps.map (a0e lad wn cn ln)).contains 0=true then 0 else a1K lad k ⟨k,tn,tm,ps⟩ (ps.map (a0e lad wn cn ln)))):=hR1.out
   obtain⟨i0,hi,hz0,hz1,hz2⟩:=info_parts a7z
   have c3:=HX2.out.cell 3 _ rfl
   have x2:=HX2.out.lt
   have hz2':(8:Int)*(N:Int)<=140737488355328:=by omega
   clear hR1
   go_wp2_with (at_make;refine wpList_make_full _ rfl _ _ 162 rfl w2.heap.size 3 i0 (.int .i64 0) 1 Tryz.underlying162 hi hz0 hz1 _ _ _ _ N rfl rfl rfl rfl (by rw[hz2];omega) (by unfold maxLen;omega) (ZC _) ?_;intro w3 hown hgrow;have hb3:Below w2.heap.size w2 w3:=(ZE _ _).grown hgrow (ZC _) (by simp);have d3:=(hb3.cell (p:=⟨w.heap.size,3,none⟩) x2).trans c3;have x3:w.heap.size<w3.heap.size:=ZA x2 hb3.size;have HB3:=a0a hb3;have HO:=a0a hown;clear hb3 hown hgrow)
   have HBp:Hid (Box w3 w2.heap.size (a5U (List.replicate N 0))):=by
    rcases a7U HO.out with ⟨h,_⟩ | ⟨g,c,h,_,hb⟩
    ·cases h
    ·simp only[Value.slice.injEq,Option.some.injEq,Addr.mk.injEq,and_true] at h
     obtain⟨⟨rfl,_⟩,_⟩:=h
     rw[a3A _ _ (by rfl)] at hb
     refine a0a ?_
     simpa[a5U] using hb
   have hp1:Hid (w.heap.size<w2.heap.size):=x2
   obtain⟨pb,hpb⟩:∃ pb,Hid (pb=w2.heap.size):=⟨_,rfl⟩
   rw[<-hpb.out] at HBp hp1 ⊢
   have HB3':=a0a (a0c HB2.out HB3.out HB2.out.size)
   have HX3:=a0a (HX2.out.next HB3.out)
   have HZ3:=a0a (HZ2.out.next HB3.out)
   have hg2:Hid (g0<pb):=by rw[hpb.out];exact HZ2.out.lt
   clear HO HX2 HZ2 HB2 HB3 c3 x2 hi hz0 hz1 hz2 hz2' hpb
   go_loopw [38] (fun i wr=>∃ (j:Nat) (xs:List Int),i=.int .i64 (j:Nat)/\j<=N/\Hid (xs.length=N)/\Hid (xs.take j=(ps.take j).map (a0e lad wn cn ln))/\Hid (((ps.take j).map (a0e lad wn cn ln)).contains 0=false)/\Hid (Box wr pb (a5U xs))/\Hid (a0E [pb] w3 wr)) (fun i _=>match i with | .int _ p=>((N:Int)-p).toNat | _=>0)
   case atStart=>exact⟨0,_,rfl,by omega,a0a (by simp),a0a (by simp),a0a (by simp),HBp.out,a0E.refl _ _⟩
   case round=>
    obtain⟨j,xs,rfl,hj,HXl,HXs,HNo,HBx',HT⟩:=hrel
    have HBr:=a0a (a0T HB3'.out HT.out (fun b hb=>by simp at hb;have:=hp1.out;omega))
    by_cases hlt:j<N
    ·have hlt':(j:Int)<(N:Int):=by omega
     have hl1:j<ps.length:=by rw[<-hN.out];exact hlt
     obtain⟨bb,off,cap',e0,hle,hcap,hbl',hx⟩:=HL.out.open (by omega)
     simp only[Value.slice.injEq] at e0
     obtain⟨rfl,-,rfl⟩:=e0
     obtain⟨u,h6,hu⟩:=hx j hl1
     have k6:=h6.keep (w':=wr) (fun q=>HBr.out.cell (p:=⟨bb,q,none⟩) hbl')
     obtain⟨p0,p1,p2,p3⟩:=k6
     have lbr:bb<wr.heap.size:=ZA hbl' HBr.out.size
     have A:∀ o,Below wr.heap.size wr (wr.alloc o):=fun o=>(ZE _ _).alloc (ZC _) _
     have HC:=a0a (fun o=>HI.out ps[j] (List.getElem_mem hl1) u b sb (wr.alloc o) ((hu.next HBr.out).next (A o)) (hnp.out _ (List.getElem_mem hl1)) ((HBx.out.next HBr.out).next (A o)) ((HRw.out.next HBr.out).next (A o)))
     have HA:=a0a A
     have HMem:=a0a (List.getElem_mem hl1)
     have HTk:Hid ((ps.take (j+1)).map (a0e lad wn cn ln)=(ps.take j).map (a0e lad wn cn ln)++[a0e lad wn cn ln ps[j]]):=by
      show _=_
      rw[List.take_succ_eq_append_getElem hl1,List.map_append];rfl
     obtain⟨au,cu,rfl,-,-⟩:=hu.parts.shape
     clear h6 hu hx A
     generalize ps[j]=x at *
     generalize hr:a0e lad wn cn ln x=r at *
     have Hr:=a0a hr
     clear hl1 hr
     go_wp2_with fail
     refine ZF (HC.out _) ?_
     rintro e w5 ⟨rfl,b5⟩
     have HW5:=a0a (a0c (HA.out _) b5 (by simp))
     have BP:=HBx'.out.next HW5.out
     obtain⟨y,hy⟩:∃ y,xs[j]? = some y:=⟨_,List.getElem?_eq_getElem (by rw[HXl.out];exact hlt)⟩
     have p4:=a5n BP hy
     have p5:=a8c BP (i:=j) (by rw[HXl.out];exact hlt)
     have p6:=BP.lt
     have HBP:=a0a BP
     clear b5 HC HA BP hy p0 p1 p2 p3
     by_cases h0:r=0
     ·have hR3:R=0:=by
       rw[hR2.out,if_pos]
       rw[List.contains_iff_mem,List.mem_map]
       exact⟨x,HMem.out,by rw[Hr.out,h0]⟩
      subst hR3
      subst h0
      have HBe:=a0a (a0T (a0c HBr.out HW5.out HBr.out.size) (a0l w5 pb j (.int .i64 0)) (fun b hb=>by simp at hb;have:=hp1.out;omega))
      clear hR2 HTk Hr HMem
      go_wp2_with fail
      go_ret
      exact⟨rfl,HBe.out⟩
     ·have hT5:=a0a ((HT.out.andBelow HW5.out).andSet ⟨pb,j,none⟩ (.int .i64 r) (.inl (by simp)))
      have hB5:=a0a (a9p HBP.out (i:=j) (by rw[HXl.out];exact hlt) r)
      have e1:Hid ((xs.set j r).take (j+1)=(ps.take (j+1)).map (a0e lad wn cn ln)):=by
       show _=_
       have hj2:j<xs.length:=by rw[HXl.out];exact hlt
       rw[HTk.out,<-HXs.out,List.take_succ_eq_append_getElem (by simpa using hj2),List.take_set_of_le (ZC _)]
       simp
      have e2:Hid (((ps.take (j+1)).map (a0e lad wn cn ln)).contains 0=false):=by
       show _=_
       have:=HNo.out
       rw[HTk.out]
       simp only[List.contains_eq_mem,List.mem_append,List.mem_singleton,decide_eq_false_iff_not,not_or] at this ⊢
       exact⟨this,fun e=>h0 e.symm⟩
      have e3:Hid ((xs.set j r).length=N):=by show _=_;rw[List.length_set];exact HXl.out
      clear hR2 HTk Hr HMem HBP HXs HXl HNo
      go_wp2_with fail
      go_roundw
      case rel=>exact⟨j+1,xs.set j r,by go_num,by omega,e3.out,e1.out,e2.out,hB5.out,hT5.out⟩
      case measure=>simp;omega
    ·have hjN:j=N:=by omega
     have hlt':¬(j:Int)<(N:Int):=by omega
     have ex:xs=ps.map (a0e lad wn cn ln):=by
      have:=HXs.out
      rw[hjN,List.take_of_length_le (by rw[HXl.out];exact ZC _),List.take_of_length_le (by rw[hN.out];exact ZC _)] at this
      exact this
     have hno:(ps.map (a0e lad wn cn ln)).contains 0=false:=by
      have:=HNo.out
      rw[hjN,List.take_of_length_le (by rw[hN.out];exact ZC _)] at this
      exact this
     have hR3:Hid (R=a1K lad k ⟨k,tn,tm,ps⟩ xs):=by
      show _=_
      rw[hR2.out,if_neg (by rw[hno];decide),ex]
     have BX:=HX3.out.turn HT.out (by simp;have:=hp1.out;omega)
     have BZ:=HZ3.out.turn HT.out (by simp;have:=hg2.out;omega)
     obtain⟨p0,p1,p2,p3⟩:=Box.c4 BX
     have p4:=BX.lt
     have z1:=BZ.cell 1 _ rfl
     have z2:=BZ.lt
     have HC:=a5G lad HLad hk1 hk2 ⟨k,tn,tm,ps⟩ xs (.slice ad N cap) (some ⟨pb,0,none⟩) N wr (G4.out.next HBr.out) (HS.out.next HBr.out) (by rw[HXl.out];exact hN.out) (by rw[HXl.out];exact hlen) (a7y HBx'.out N) (by rw[HXl.out];exact ZC _) (by omega)
     rw[HXl.out,<-hR3.out] at HC
     have HCc:=a0a HC
     clear BX BZ HC hR3 hR2 hno ex
     go_wp2_with fail
     refine ZF HCc.out ?_
     rintro e w5 ⟨rfl,b5⟩
     have HBe:=kb HBr b5
     clear b5
     go_wp2_with fail
     go_ret
     exact⟨rfl,HBe.out⟩
abbrev co0:Co:=⟨0,0,0,[]⟩
def a4y (c:Co)(ss:List Int)(i:Nat):Prop:=(c.parts.getD i co0).op=1/\ss.getD (i+1) 0=3/\(1<i->(c.parts.getD (i-2) co0).n<(c.parts.getD i co0).n)
def a5S (c:Co)(ss:List Int):Prop:=2<=ss.length/\ss.length%2=0/\ss.getD 0 0=1/\ss.getD (ss.length-1) 0=3/\∀ i,i%2=1->i+1<ss.length->a4y c ss i
def a6p (c:Co)(ss:List Int)(i:Nat):Bool:=decide ((c.parts.getD i co0).op=1)&&(decide (ss.getD (i+1) 0=3)&&(decide (i<=1)||decide ((c.parts.getD (i-2) co0).n<(c.parts.getD i co0).n)))
theorem a5x (c:Co)(ss:List Int)(i:Nat):a6p c ss i=true↔a4y c ss i:=by
 unfold a6p a4y
 simp only[Bool.and_eq_true,Bool.or_eq_true,decide_eq_true_eq]
 constructor
 ·rintro⟨h1,h2,h3⟩
  exact⟨h1,h2,fun h=>h3.resolve_left (by omega)⟩
 ·rintro⟨h1,h2,h3⟩
  exact⟨h1,h2,(Nat.lt_or_ge 1 i).elim (fun h=>.inr (h3 h)) .inl⟩
def b0e (c:Co)(ss:List Int):Bool:=decide (2<=ss.length)&&(decide (ss.length%2=0)&&(decide (ss.getD 0 0=1)&&(decide (ss.getD (ss.length-1) 0=3)&&(List.range ss.length).all fun i=>decide (i%2=0)||(decide (ss.length<=i+1)||a6p c ss i))))
theorem a3E (c:Co)(ss:List Int):b0e c ss=true↔a5S c ss:=by
 unfold b0e a5S
 simp only[Bool.and_eq_true,decide_eq_true_eq,List.all_eq_true,List.mem_range,Bool.or_eq_true,a5x]
 refine and_congr Iff.rfl (and_congr Iff.rfl (and_congr Iff.rfl (and_congr Iff.rfl ⟨fun h i h1 h2=>?_,fun h i h1=>?_⟩)))
 ·rcases h i (by omega) with k | k | k
  ·omega
  ·omega
  ·exact k
 ·by_cases k:i%2=0
  ·exact .inl k
  ·by_cases k2:ss.length<=i+1
   ·exact .inr (.inl k2)
   ·exact .inr (.inr (h i (by omega) (by omega)))
def a0v (c:Co)(ss:List Int):Int:=if b0e c ss=true then 3 else 0
theorem a5c {c:Co}{ss:List Int}(h:a5S c ss):a0v c ss=3:=if_pos ((a3E c ss).2 h)
theorem a2P {c:Co}{ss:List Int}(h:¬ a5S c ss):a0v c ss=0:=if_neg (fun k=>h ((a3E c ss).1 k))
set_option maxHeartbeats 4000000 in
set_option maxRecDepth 20000 in
theorem a6S:StC 175 a0v:=by
 intro c ss v a1 k1 w hs hlen hl h1 hk hk2
 have HL:=a0a hs.parts
 obtain⟨ad,cap,rfl,hc1,hc2⟩:=hs.parts.shape
 rw[<-hlen] at hc1 ⊢
 obtain⟨L,hL⟩:∃ L,Hid (L=ss.length):=⟨_,rfl⟩
 obtain⟨R,hR⟩:∃ R,Hid (R=a0v c ss):=⟨_,rfl⟩
 have H1:=a0a h1
 have HLen:=a0a hlen
 rw[<-hL.out] at hc1 H1 hk hl ⊢
 rw[<-hR.out]
 have HA:Hid (∀ o,Below w.heap.size w (w.alloc o)):=fun o=>(ZE _ _).alloc (ZC _) _
 clear hs h1 hlen
 by_cases a2:L<2
 ·have h0:R=0:=by rw[hR.out];exact a2P (fun h=>by have:=h.1;rw[<-hL.out] at this;omega)
  subst h0
  have b2:(L:Int)-1<1:=by omega
  go_enter Tryz.func175,Tryz.ntmps175
  go_wp2_with fail
  go_ret
  exact⟨rfl,HA.out _⟩
 have b2:¬(L:Int)-1<1:=by omega
 by_cases a3:L%2=0
 case neg=>
  have h0:R=0:=by rw[hR.out];exact a2P (fun h=>by have:=h.2.1;rw[<-hL.out] at this;omega)
  subst h0
  have b3:Int.tmod ((L:Int)-1) 2=0:=by rw[Int.tmod_eq_emod_of_nonneg (by omega)];omega
  go_enter Tryz.func175,Tryz.ntmps175
  go_wp2_with fail
  go_ret
  exact⟨rfl,HA.out _⟩
 obtain⟨b,o1,rfl,hb,hc⟩:=H1.out.open (by rw[<-hL.out];omega)
 obtain⟨M,rfl⟩:∃ M,L=M+1:=⟨L-1,by omega⟩
 have b3:Int.tmod (M:Int) 2=1:=by rw[Int.tmod_eq_emod_of_nonneg (by omega)];omega
 have hM:1<=M:=by omega
 have b4:¬(M:Int)<1:=by omega
 have g0:ss.getD 0 0=ss[0]'(by rw[<-hL.out];omega):=by simp[List.getD,List.getElem?_eq_getElem (show 0<ss.length by rw[<-hL.out];omega)]
 have gM:ss.getD M 0=ss[M]'(by rw[<-hL.out];omega):=by simp[List.getD,List.getElem?_eq_getElem (show M<ss.length by rw[<-hL.out];omega)]
 have e0:=hc 0 (by rw[<-hL.out];omega)
 have eM:=hc M (by rw[<-hL.out];omega)
 rw[<-g0,Nat.add_zero] at e0
 rw[<-gM] at eM
 have HC:=a0a hc
 clear g0 gM hc a2 b2
 by_cases a4:ss.getD 0 0=1
 case neg=>
  have h0:R=0:=by rw[hR.out];exact a2P (fun h=>a4 h.2.2.1)
  subst h0
  have d4:(ss.getD 0 0 != 1)=true:=by simpa using a4
  generalize ss.getD 0 0=x0 at *
  go_enter Tryz.func175,Tryz.ntmps175
  go_wp2_with fail
  go_ret
  exact⟨rfl,HA.out _⟩
 rw[a4] at e0
 by_cases a5:ss.getD M 0=3
 case neg=>
  have h0:R=0:=by rw[hR.out];exact a2P (fun h=>a5 (by have:=h.2.2.2.1;rw[<-hL.out] at this;exact this))
  subst h0
  have d5:(ss.getD M 0 != 3)=true:=by simpa using a5
  generalize ss.getD M 0=x0 at *
  go_enter Tryz.func175,Tryz.ntmps175
  go_wp2_with fail
  go_ret
  exact⟨rfl,HA.out _⟩
 rw[a5] at eM
 obtain⟨bb,off,cap',ec,hle,hcap,hbl',hx⟩:=HL.out.open (by rw[<-HLen.out,<-hL.out];omega)
 simp only[Value.slice.injEq] at ec
 obtain⟨rfl,-,rfl⟩:=ec
 have X0:=Box.new w (coL c (.slice (some ⟨bb,off,none⟩) (M+1) cap)) 30
 have c3:=X0.cell 3 _ rfl
 have x0:=X0.lt
 have hb0:=HA.out (.cells (coL c (.slice (some ⟨bb,off,none⟩) (M+1) cap)).toArray 30)
 have HX:Hid (∀ i (h:i<c.parts.length),(w.alloc (.cells (coL c (.slice (some ⟨bb,off,none⟩) (M+1) cap)).toArray 30)).cell? ⟨bb,off+i*4,none⟩=some (.int .i64 (c.parts.getD i co0).op)/\(w.alloc (.cells (coL c (.slice (some ⟨bb,off,none⟩) (M+1) cap)).toArray 30)).cell? ⟨bb,off+i*4+1,none⟩=some (.int .i64 (c.parts.getD i co0).n)):=fun i h=>by
  obtain⟨u,h6,-⟩:=hx i h
  have e:c.parts.getD i co0=c.parts[i]:=by simp[List.getD,List.getElem?_eq_getElem h]
  rw[e]
  exact⟨(hb0.cell (p:=⟨bb,_,none⟩) hbl').trans h6.c0,(hb0.cell (p:=⟨bb,_,none⟩) hbl').trans h6.c1⟩
 have HS:Hid (∀ i (h:i<ss.length),(w.alloc (.cells (coL c (.slice (some ⟨bb,off,none⟩) (M+1) cap)).toArray 30)).cell? ⟨b,o1+i,none⟩=some (.int .i64 (ss.getD i 0))):=fun i h=>by
  have e:ss.getD i 0=ss[i]:=by simp[List.getD,List.getElem?_eq_getElem h]
  rw[e]
  exact(hb0.cell (p:=⟨b,_,none⟩) hb).trans (HC.out i h)
 have y1:bb<(w.alloc (.cells (coL c (.slice (some ⟨bb,off,none⟩) (M+1) cap)).toArray 30)).heap.size:=ZA hbl' hb0.size
 have y2:b<(w.alloc (.cells (coL c (.slice (some ⟨bb,off,none⟩) (M+1) cap)).toArray 30)).heap.size:=ZA hb hb0.size
 have HB0:=a0a hb0
 clear hx X0 hb0 HC
 go_enter Tryz.func175,Tryz.ntmps175
 go_wp2_with fail
 generalize hW0:w.alloc _=w0 at *
 clear hW0 e0 eM HA
 go_loopw [6] (fun i wr=>∃ i0:Nat,i=.int .i64 (i0:Nat)/\i0<=M/\Hid (i0%2=1)/\Hid (∀ q,q%2=1->q<i0->a4y c ss q)/\Hid (Below w0.heap.size w0 wr)) (fun i _=>match i with | .int _ p=>((M:Int)-p).toNat | _=>0)
 case atStart=>exact⟨1,rfl,hM,a0a rfl,(fun q h1 h2=>by omega),ZE _ _⟩
 case round=>
  obtain⟨i,rfl,hj,HO,HQ,HW⟩:=hrel
  have r3:=(HW.out.cell (p:=⟨w.heap.size,3,none⟩) x0).trans c3
  have rx:=ZA x0 HW.out.size
  have r1:=ZA y1 HW.out.size
  have r2:=ZA y2 HW.out.size
  have HB1:=a0a (a0c HB0.out HW.out HB0.out.size)
  by_cases hlt:i<M
  ·have hlt':(i:Int)<(M:Int):=by omega
   have hl1:i<c.parts.length:=by rw[<-HLen.out,<-hL.out];omega
   have hl2:i+1<ss.length:=by rw[<-hL.out];omega
   have p0:=(HW.out.cell (p:=⟨bb,_,none⟩) y1).trans (HX.out i hl1).1
   have p1:=(HW.out.cell (p:=⟨bb,_,none⟩) y1).trans (HX.out i hl1).2
   have p2:=(HW.out.cell (p:=⟨b,_,none⟩) y2).trans (HS.out (i+1) hl2)
   have HNo:Hid (¬ a4y c ss i->R=0):=fun h=>by rw[hR.out];exact a2P (fun k=>h (k.2.2.2.2 i HO.out hl2))
   by_cases q1:(c.parts.getD i co0).op=1
   case neg=>
    have h0:R=0:=HNo.out (fun h=>q1 h.1)
    subst h0
    have d4:((c.parts.getD i co0).op != 1)=true:=by simpa using q1
    generalize c.parts.getD i co0=x at *
    clear HX HS HQ
    go_wp2_with fail
    go_ret
    exact⟨rfl,by first | exact HB1.out | exact HB1.out.drew | exact a0B HB1.out _⟩
   rw[q1] at p0
   by_cases q2:ss.getD (i+1) 0=3
   case neg=>
    have h0:R=0:=HNo.out (fun h=>q2 h.2.1)
    subst h0
    have d4:(ss.getD (i+1) 0 != 3)=true:=by simpa using q2
    generalize ss.getD (i+1) 0=x at *
    clear HX HS HQ
    go_wp2_with fail
    go_ret
    exact⟨rfl,by first | exact HB1.out | exact HB1.out.drew | exact a0B HB1.out _⟩
   rw[q2] at p2
   by_cases q3:1<i
   case neg=>
    have HQ2:Hid (∀ q,q%2=1->q<i+2->a4y c ss q):=fun q h1 h2=>by
     by_cases e:q=i
     ·rw[e];exact⟨q1,q2,fun h=>absurd h q3⟩
     ·exact HQ.out q h1 (by have:=HO.out;omega)
    have q4:¬ 1<(i:Int):=by omega
    have q4b:decide ((1:Int)<(i:Int))=false:=decide_eq_false q4
    have q4c:decide ((i:Int)>1)=false:=decide_eq_false q4
    clear HX HS HQ
    go_wp2_with fail
    go_quiet (fail)
    go_wp2_with fail
    go_roundw
    case rel=>exact⟨i+2,by go_num,by have:=HO.out;omega,a0a (by have:=HO.out;omega),HQ2.out,by first | exact HW.out | exact HW.out.drew | exact a0B HW.out _⟩
    case measure=>simp;omega
   obtain⟨r,rfl⟩:∃ r,i=r+2:=⟨i-2,by omega⟩
   have q4:1<(r:Int)+2:=by omega
   have q4b:decide ((1:Int)<(r:Int)+2)=true:=decide_eq_true q4
   have p3:=(HW.out.cell (p:=⟨bb,_,none⟩) y1).trans (HX.out r (by omega)).2
   by_cases q5:(c.parts.getD r co0).n<(c.parts.getD (r+2) co0).n
   case neg=>
    have h0:R=0:=HNo.out (fun h=>q5 (h.2.2 q3))
    subst h0
    have q6:(c.parts.getD (r+2) co0).n<=(c.parts.getD r co0).n:=by omega
    generalize c.parts.getD r co0=x at *
    generalize c.parts.getD (r+2) co0=y at *
    clear HX HS HQ
    go_wp2_with fail
    go_quiet (fail)
    go_wp2_with fail
    go_ret
    exact⟨rfl,by first | exact HB1.out | exact HB1.out.drew | exact a0B HB1.out _⟩
   have HQ2:Hid (∀ q,q%2=1->q<r+2+2->a4y c ss q):=fun q h1 h2=>by
    by_cases e:q=r+2
    ·rw[e];exact⟨q1,q2,fun _=>q5⟩
    ·exact HQ.out q h1 (by have:=HO.out;omega)
   have q6:¬(c.parts.getD (r+2) co0).n<=(c.parts.getD r co0).n:=by omega
   clear q1
   generalize c.parts.getD r co0=x at *
   generalize c.parts.getD (r+2) co0=y at *
   clear HX HS HQ
   go_wp2_with fail
   go_quiet (fail)
   go_wp2_with fail
   go_roundw
   case rel=>exact⟨r+2+2,by go_num,by have:=HO.out;omega,a0a (by have:=HO.out;omega),HQ2.out,by first | exact HW.out | exact HW.out.drew | exact a0B HW.out _⟩
   case measure=>simp;omega
  ·have hlt':¬(i:Int)<(M:Int):=by omega
   have h3:R=3:=by
    rw[hR.out]
    refine a5c ⟨by rw[<-hL.out];omega,by rw[<-hL.out];exact a3,a4,by rw[<-hL.out];exact a5,fun q h1 h2=>HQ.out q h1 (by rw[<-hL.out] at h2;omega)⟩
   subst h3
   go_wp2_with fail
   go_ret
   exact⟨rfl,by first | exact HB1.out | exact HB1.out.drew | exact a0B HB1.out _⟩
theorem a4J (wn cn ln:Int)(h64:C64 wn/\C64 cn/\C64 ln)(t:Co):a9Z a0v wn cn ln t:=by
 induction t using Co.ind with
 | h t ih=>exact a5I a0v a6S wn cn ln h64 t ih
end Go.Proofs.YtbddbnjhmdbkbaaGreatDoor

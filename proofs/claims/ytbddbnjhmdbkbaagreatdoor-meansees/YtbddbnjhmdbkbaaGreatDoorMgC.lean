import Derived.Test.YtbddbnjhmdbkbaaGreatDoorCoR
import Derived.BigQuiet
namespace Go.Proofs.YtbddbnjhmdbkbaaGreatDoor
open Go.RowKit
abbrev soL (b:Nat)(wn cn ln:Int):List Value:=[.slice (some ⟨b,0,none⟩) 33 33,.int .i64 wn,.int .i64 cn,.int .i64 ln]
def a0w (n k:Int):Bool:=decide (0<=n)&&decide (n<k)
def FtC (fn:Nat)(B:Int->Int->Int->Co->Bool):Prop:=∀ (wn cn ln:Int) (b sb:Nat) (c:Co) (ad:Option Addr) (n cap:Nat) (w:World),C64 wn->C64 cn->C64 ln->Box w sb (soL b wn cn ln)->c0G c->Calls Tryz.prog fn #[.pointer (some ⟨sb,0,none⟩),coV c (.slice ad n cap)] w fun e w'=>e=.returned (.bool (B wn cn ln c))/\Below w.heap.size w w'
set_option maxHeartbeats 1000000 in
theorem a5b (n k:Int)(w:World):Calls Tryz.prog 215 #[.int .i64 n,.int .i64 k] w fun e w'=>e=.returned (.bool (a0w n k))/\w'=w:=by
 unfold a0w
 by_cases h1:0<=n
 ·by_cases h2:n<k
  ·rw[decide_eq_true h1,decide_eq_true h2]
   go_enter Tryz.func215,Tryz.ntmps215
   go_wp2_with fail
   go_ret
   exact⟨rfl,rfl⟩
  ·rw[decide_eq_true h1,decide_eq_false h2]
   go_enter Tryz.func215,Tryz.ntmps215
   go_wp2_with fail
   go_ret
   exact⟨rfl,rfl⟩
 ·rw[decide_eq_false h1]
  go_enter Tryz.func215,Tryz.ntmps215
  go_wp2_with fail
  go_ret
  exact⟨rfl,rfl⟩
set_option maxHeartbeats 1000000 in
theorem a0y:FtC 134 fun _ _ _ c=>decide (c.n=0)&&(decide (c.m=0)):=by
 intro wn cn ln b sb c ad n cap w hw hc hl hb hf
 have B1:Hid (∀ o,Below w.heap.size w (w.alloc o)):=fun o=>(ZD _ _).alloc (ZB _) _
 clear hw hc hl hb
 by_cases h0:c.n=0
 case neg=>
  show Calls _ _ _ _ fun e w'=>e=.returned (.bool (decide (c.n=0)&&(decide (c.m=0))))/\_
  rw[decide_eq_false h0]
  have k0:(c.n==0)=false:=by simpa using h0
  go_enter Tryz.func134,Tryz.ntmps134
  go_wp2_with fail
  go_ret
  exact⟨rfl,B1.out _⟩
 by_cases h1:c.m=0
 case neg=>
  show Calls _ _ _ _ fun e w'=>e=.returned (.bool (decide (c.n=0)&&(decide (c.m=0))))/\_
  rw[decide_eq_true h0,decide_eq_false h1]
  have k1:(c.m==0)=false:=by simpa using h1
  go_enter Tryz.func134,Tryz.ntmps134
  go_wp2_with fail
  go_ret
  exact⟨rfl,B1.out _⟩
 show Calls _ _ _ _ fun e w'=>e=.returned (.bool (decide (c.n=0)&&(decide (c.m=0))))/\_
 rw[decide_eq_true h0,decide_eq_true h1]
 go_enter Tryz.func134,Tryz.ntmps134
 go_wp2_with fail
 go_ret
 exact⟨rfl,B1.out _⟩
set_option maxHeartbeats 1000000 in
theorem c1M:FtC 131 fun _ _ _ c=>decide (c.m=0):=by
 intro wn cn ln b sb c ad n cap w hw hc hl hb hf
 have B1:Hid (∀ o,Below w.heap.size w (w.alloc o)):=fun o=>(ZD _ _).alloc (ZB _) _
 clear hw hc hl hb
 by_cases h0:c.m=0
 case neg=>
  show Calls _ _ _ _ fun e w'=>e=.returned (.bool (decide (c.m=0)))/\_
  rw[decide_eq_false h0]
  have k0:(c.m==0)=false:=by simpa using h0
  go_enter Tryz.func131,Tryz.ntmps131
  go_wp2_with fail
  go_ret
  exact⟨rfl,B1.out _⟩
 show Calls _ _ _ _ fun e w'=>e=.returned (.bool (decide (c.m=0)))/\_
 rw[decide_eq_true h0]
 go_enter Tryz.func131,Tryz.ntmps131
 go_wp2_with fail
 go_ret
 exact⟨rfl,B1.out _⟩
set_option maxHeartbeats 1000000 in
theorem b4I:FtC 152 fun _ _ _ c=>decide (0<=c.n)&&(decide (1<=c.m)):=by
 intro wn cn ln b sb c ad n cap w hw hc hl hb hf
 have B1:Hid (∀ o,Below w.heap.size w (w.alloc o)):=fun o=>(ZD _ _).alloc (ZB _) _
 clear hw hc hl hb
 by_cases h0:0<=c.n
 case neg=>
  show Calls _ _ _ _ fun e w'=>e=.returned (.bool (decide (0<=c.n)&&(decide (1<=c.m))))/\_
  rw[decide_eq_false h0]
  go_enter Tryz.func152,Tryz.ntmps152
  go_wp2_with fail
  go_ret
  exact⟨rfl,B1.out _⟩
 by_cases h1:1<=c.m
 case neg=>
  show Calls _ _ _ _ fun e w'=>e=.returned (.bool (decide (0<=c.n)&&(decide (1<=c.m))))/\_
  rw[decide_eq_true h0,decide_eq_false h1]
  go_enter Tryz.func152,Tryz.ntmps152
  go_wp2_with fail
  go_ret
  exact⟨rfl,B1.out _⟩
 show Calls _ _ _ _ fun e w'=>e=.returned (.bool (decide (0<=c.n)&&(decide (1<=c.m))))/\_
 rw[decide_eq_true h0,decide_eq_true h1]
 go_enter Tryz.func152,Tryz.ntmps152
 go_wp2_with fail
 go_ret
 exact⟨rfl,B1.out _⟩
set_option maxHeartbeats 1000000 in
theorem c0h:FtC 133 fun _ _ _ c=>a0w c.n 2&&decide (c.m=0):=by
 intro wn cn ln b sb c ad n cap w hw hc hl hb hf
 have B1:Hid (∀ o,Below w.heap.size w (w.alloc o)):=fun o=>(ZD _ _).alloc (ZB _) _
 have HC:=a0a (fun W=>a5b c.n 2 W)
 clear hw hc hl hb
 show Calls _ _ _ _ fun e w'=>e=.returned (.bool (a0w c.n 2&&decide (c.m=0)))/\_
 generalize a0w c.n 2=r at *
 cases r with
 | false=>
   go_enter Tryz.func133,Tryz.ntmps133
   go_wp2_with fail
   refine ZE (HC.out _) ?_
   rintro e w1 ⟨rfl,rfl⟩
   go_wp2_with fail
   go_ret
   exact⟨rfl,by first | exact B1.out _ | exact(B1.out _).drew | exact a0j (B1.out _) _⟩
 | true=>
   by_cases h1:c.m=0
   ·rw[decide_eq_true h1]
    go_enter Tryz.func133,Tryz.ntmps133
    go_wp2_with fail
    refine ZE (HC.out _) ?_
    rintro e w1 ⟨rfl,rfl⟩
    go_wp2_with fail
    go_ret
    exact⟨rfl,by first | exact B1.out _ | exact(B1.out _).drew | exact a0j (B1.out _) _⟩
   ·rw[decide_eq_false h1]
    have k1:(c.m==0)=false:=by simpa using h1
    go_enter Tryz.func133,Tryz.ntmps133
    go_wp2_with fail
    refine ZE (HC.out _) ?_
    rintro e w1 ⟨rfl,rfl⟩
    go_wp2_with fail
    go_ret
    exact⟨rfl,by first | exact B1.out _ | exact(B1.out _).drew | exact a0j (B1.out _) _⟩
set_option maxHeartbeats 1000000 in
theorem c0i:FtC 136 fun wn _ _ c=>a0w c.n wn&&decide (c.m=0):=by
 intro wn cn ln b sb c ad n cap w hw hc hl hb hf
 have B1:Hid (∀ o,Below w.heap.size w (w.alloc o)):=fun o=>(ZD _ _).alloc (ZB _) _
 have HC:=a0a (fun W=>a5b c.n wn W)
 have s1:=hb.cell 1 _ rfl
 have sl:=hb.lt
 clear hw hc hl hb
 show Calls _ _ _ _ fun e w'=>e=.returned (.bool (a0w c.n wn&&decide (c.m=0)))/\_
 generalize a0w c.n wn=r at *
 cases r with
 | false=>
   go_enter Tryz.func136,Tryz.ntmps136
   go_wp2_with fail
   go_quiet (first|(go_at_call 215;refine Calls.quiet_of_same (HC.out _)))
   go_wp2_with fail
   go_ret
   exact⟨rfl,by first | exact B1.out _ | exact(B1.out _).drew | exact a0j (B1.out _) _⟩
 | true=>
   by_cases h1:c.m=0
   ·rw[decide_eq_true h1]
    go_enter Tryz.func136,Tryz.ntmps136
    go_wp2_with fail
    go_quiet (first|(go_at_call 215;refine Calls.quiet_of_same (HC.out _)))
    go_wp2_with fail
    go_ret
    exact⟨rfl,by first | exact B1.out _ | exact(B1.out _).drew | exact a0j (B1.out _) _⟩
   ·rw[decide_eq_false h1]
    have k1:(c.m==0)=false:=by simpa using h1
    go_enter Tryz.func136,Tryz.ntmps136
    go_wp2_with fail
    go_quiet (first|(go_at_call 215;refine Calls.quiet_of_same (HC.out _)))
    go_wp2_with fail
    go_ret
    exact⟨rfl,by first | exact B1.out _ | exact(B1.out _).drew | exact a0j (B1.out _) _⟩
set_option maxHeartbeats 1000000 in
theorem b7m:FtC 138 fun _ cn _ c=>a0w c.n cn&&decide (c.m=0):=by
 intro wn cn ln b sb c ad n cap w hw hc hl hb hf
 have B1:Hid (∀ o,Below w.heap.size w (w.alloc o)):=fun o=>(ZD _ _).alloc (ZB _) _
 have HC:=a0a (fun W=>a5b c.n cn W)
 have s2:=hb.cell 2 _ rfl
 have sl:=hb.lt
 clear hw hc hl hb
 show Calls _ _ _ _ fun e w'=>e=.returned (.bool (a0w c.n cn&&decide (c.m=0)))/\_
 generalize a0w c.n cn=r at *
 cases r with
 | false=>
   go_enter Tryz.func138,Tryz.ntmps138
   go_wp2_with fail
   go_quiet (first|(go_at_call 215;refine Calls.quiet_of_same (HC.out _)))
   go_wp2_with fail
   go_ret
   exact⟨rfl,by first | exact B1.out _ | exact(B1.out _).drew | exact a0j (B1.out _) _⟩
 | true=>
   by_cases h1:c.m=0
   ·rw[decide_eq_true h1]
    go_enter Tryz.func138,Tryz.ntmps138
    go_wp2_with fail
    go_quiet (first|(go_at_call 215;refine Calls.quiet_of_same (HC.out _)))
    go_wp2_with fail
    go_ret
    exact⟨rfl,by first | exact B1.out _ | exact(B1.out _).drew | exact a0j (B1.out _) _⟩
   ·rw[decide_eq_false h1]
    have k1:(c.m==0)=false:=by simpa using h1
    go_enter Tryz.func138,Tryz.ntmps138
    go_wp2_with fail
    go_quiet (first|(go_at_call 215;refine Calls.quiet_of_same (HC.out _)))
    go_wp2_with fail
    go_ret
    exact⟨rfl,by first | exact B1.out _ | exact(B1.out _).drew | exact a0j (B1.out _) _⟩
set_option maxHeartbeats 1000000 in
theorem b4E:FtC 143 fun _ _ ln c=>a0w c.n ln&&decide (c.m=0):=by
 intro wn cn ln b sb c ad n cap w hw hc hl hb hf
 have B1:Hid (∀ o,Below w.heap.size w (w.alloc o)):=fun o=>(ZD _ _).alloc (ZB _) _
 have HC:=a0a (fun W=>a5b c.n ln W)
 have s3:=hb.cell 3 _ rfl
 have sl:=hb.lt
 clear hw hc hl hb
 show Calls _ _ _ _ fun e w'=>e=.returned (.bool (a0w c.n ln&&decide (c.m=0)))/\_
 generalize a0w c.n ln=r at *
 cases r with
 | false=>
   go_enter Tryz.func143,Tryz.ntmps143
   go_wp2_with fail
   go_quiet (first|(go_at_call 215;refine Calls.quiet_of_same (HC.out _)))
   go_wp2_with fail
   go_ret
   exact⟨rfl,by first | exact B1.out _ | exact(B1.out _).drew | exact a0j (B1.out _) _⟩
 | true=>
   by_cases h1:c.m=0
   ·rw[decide_eq_true h1]
    go_enter Tryz.func143,Tryz.ntmps143
    go_wp2_with fail
    go_quiet (first|(go_at_call 215;refine Calls.quiet_of_same (HC.out _)))
    go_wp2_with fail
    go_ret
    exact⟨rfl,by first | exact B1.out _ | exact(B1.out _).drew | exact a0j (B1.out _) _⟩
   ·rw[decide_eq_false h1]
    have k1:(c.m==0)=false:=by simpa using h1
    go_enter Tryz.func143,Tryz.ntmps143
    go_wp2_with fail
    go_quiet (first|(go_at_call 215;refine Calls.quiet_of_same (HC.out _)))
    go_wp2_with fail
    go_ret
    exact⟨rfl,by first | exact B1.out _ | exact(B1.out _).drew | exact a0j (B1.out _) _⟩
set_option maxHeartbeats 1000000 in
theorem b4D:FtC 140 fun _ _ _ c=>decide (1<=c.n)&&(decide (c.n<=3)&&(decide (c.m=1)||decide (c.m=2))):=by
 intro wn cn ln b sb c ad n cap w hw hc hl hb hf
 have B1:Hid (∀ o,Below w.heap.size w (w.alloc o)):=fun o=>(ZD _ _).alloc (ZB _) _
 clear hw hc hl hb
 by_cases h0:1<=c.n
 case neg=>
  show Calls _ _ _ _ fun e w'=>e=.returned (.bool (decide (1<=c.n)&&(decide (c.n<=3)&&(decide (c.m=1)||decide (c.m=2)))))/\_
  rw[decide_eq_false h0]
  go_enter Tryz.func140,Tryz.ntmps140
  go_wp2_with fail
  go_ret
  exact⟨rfl,B1.out _⟩
 by_cases h1:c.n<=3
 case neg=>
  show Calls _ _ _ _ fun e w'=>e=.returned (.bool (decide (1<=c.n)&&(decide (c.n<=3)&&(decide (c.m=1)||decide (c.m=2)))))/\_
  rw[decide_eq_true h0,decide_eq_false h1]
  go_enter Tryz.func140,Tryz.ntmps140
  go_wp2_with fail
  go_ret
  exact⟨rfl,B1.out _⟩
 by_cases h2:c.m=1
 case pos=>
  show Calls _ _ _ _ fun e w'=>e=.returned (.bool (decide (1<=c.n)&&(decide (c.n<=3)&&(decide (c.m=1)||decide (c.m=2)))))/\_
  rw[decide_eq_true h0,decide_eq_true h1,decide_eq_true h2]
  go_enter Tryz.func140,Tryz.ntmps140
  go_wp2_with fail
  go_ret
  exact⟨rfl,B1.out _⟩
 have k2:(c.m==1)=false:=by simpa using h2
 by_cases h3:c.m=2
 case pos=>
  show Calls _ _ _ _ fun e w'=>e=.returned (.bool (decide (1<=c.n)&&(decide (c.n<=3)&&(decide (c.m=1)||decide (c.m=2)))))/\_
  rw[decide_eq_true h0,decide_eq_true h1,decide_eq_false h2,decide_eq_true h3]
  go_enter Tryz.func140,Tryz.ntmps140
  go_wp2_with fail
  go_ret
  exact⟨rfl,B1.out _⟩
 have k3:(c.m==2)=false:=by simpa using h3
 show Calls _ _ _ _ fun e w'=>e=.returned (.bool (decide (1<=c.n)&&(decide (c.n<=3)&&(decide (c.m=1)||decide (c.m=2)))))/\_
 rw[decide_eq_true h0,decide_eq_true h1,decide_eq_false h2,decide_eq_false h3]
 go_enter Tryz.func140,Tryz.ntmps140
 go_wp2_with fail
 go_ret
 exact⟨rfl,B1.out _⟩
def a0m (op:Nat)(wn cn ln:Int)(c:Co):Bool:=
 if op=1 then decide (c.m=0)
 else if op=2 then a0w c.n 2&&decide (c.m=0)
 else if op=4 then a0w c.n wn&&decide (c.m=0)
 else if op=5 then a0w c.n cn&&decide (c.m=0)
 else if op=6 then decide (1<=c.n)&&(decide (c.n<=3)&&(decide (c.m=1)||decide (c.m=2)))
 else if op=7 then a0w c.n ln&&decide (c.m=0)
 else if op=13 then decide (0<=c.n)&&(decide (1<=c.m))
 else decide (c.n=0)&&(decide (c.m=0))
theorem b4H:∀ op,1<=op->op<=32->FtC (b4h.getD op 0) (a0m op):=
 a2n c1M c0h a0y c0i b7m b4D b4E a0y a0y a0y a0y a0y b4I a0y a0y a0y a0y a0y a0y a0y a0y a0y a0y a0y a0y a0y a0y a0y a0y a0y a0y a0y
theorem a1r.shape {w:World}{v:Value}{ts:List Int}(h:a1r w v ts):∃ ad cap,v=.slice ad ts.length cap:=by
 obtain⟨ad,cap,hv,_⟩:=h
 exact⟨ad,cap,hv⟩
theorem a1r.open {w:World}{ad:Option Addr}{n cap:Nat}{ts:List Int}(h:a1r w (.slice ad n cap) ts)(hp:0<ts.length):∃ b off,ad=some ⟨b,off,none⟩/\b<w.heap.size/\∀ i (h:i<ts.length),w.cell? ⟨b,off+i,none⟩=some (.int .i64 ts[i]):=by
 obtain⟨ad',cap',hv,h⟩:=h
 cases hv
 rcases h with h | ⟨b,off,ha,hb,hc⟩
 ·rw[h] at hp;cases hp
 ·exact⟨b,off,ha,hb,hc⟩
set_option maxHeartbeats 2000000 in
theorem b7j (ss ts:List Int)(a1 a2:Option Addr)(k1 k2:Nat)(w:World)(h1:a1r w (.slice a1 ss.length k1) ss)(h2:a1r w (.slice a2 ts.length k2) ts)(hm:ss.length<=9223372036854775806):
 Calls Tryz.prog 214 #[.slice a1 ss.length k1,.slice a2 ts.length k2] w fun e w'=>e=.returned (.bool (decide (ss=ts)))/\Below w.heap.size w w':=by
 have HL:=a0a h1
 have HK:=a0a h2
 obtain⟨R,hR⟩:∃ R,Hid (R=decide (ss=ts)):=⟨_,rfl⟩
 rw[<-hR.out]
 obtain⟨N,hN⟩:∃ N,Hid (N=ss.length):=⟨_,rfl⟩
 obtain⟨N',hN'⟩:∃ N,Hid (N=ts.length):=⟨_,rfl⟩
 rw[<-hN.out] at HL hm ⊢
 rw[<-hN'.out] at HK ⊢
 clear h1 h2
 by_cases hl:N=N'
 case neg=>
  have hr:R=false:=by rw[hR.out];exact decide_eq_false (fun e=>hl (by rw[hN.out,hN'.out,e]))
  have k3:((N:Int) != (N':Int))=true:=by simp;omega
  subst hr
  go_enter Tryz.func214,Tryz.ntmps214
  go_wp2_with fail
  go_ret
  exact⟨rfl,ZD _ _⟩
 subst hl
 go_enter Tryz.func214,Tryz.ntmps214
 go_wp2_with fail
 go_loopw [13] (fun i wr=>∃ j:Nat,i=.int .i64 (j:Nat)/\j<=N/\Hid (∀ q (h1:q<ss.length) (h2:q<ts.length),q<j->ss[q]=ts[q])/\Hid (Below w.heap.size w wr)) (fun i _=>match i with | .int _ p=>((N:Int)-p).toNat | _=>0)
 case atStart=>exact⟨0,rfl,by omega,fun q _ _ h=>absurd h (by omega),ZD _ _⟩
 case round=>
  obtain⟨j,rfl,hj,HQ,HB⟩:=hrel
  by_cases hlt:j<N
  ·have hlt':(j:Int)<(N:Int):=by omega
   have h1:j<ss.length:=by rw[<-hN.out];exact hlt
   have h2:j<ts.length:=by rw[<-hN'.out];exact hlt
   obtain⟨b,off,rfl,hbl,hx⟩:=HL.out.open (by omega)
   obtain⟨b',off',rfl,hbl',hx'⟩:=HK.out.open (by omega)
   have c0:=(HB.out.cell (p:=⟨b,off+j,none⟩) hbl).trans (hx j h1)
   have e0:=(HB.out.cell (p:=⟨b',off'+j,none⟩) hbl').trans (hx' j h2)
   have lb:b<wr.heap.size:=ZA hbl HB.out.size
   have lb':b'<wr.heap.size:=ZA hbl' HB.out.size
   have HNe:Hid (ss[j]≠ts[j]->R=false):=fun h=>by
    rw[hR.out]
    exact decide_eq_false (fun e=>h (by subst e;rfl))
   have HEq:Hid (∀ x y,x=ss[j]->y=ts[j]->x=y->ss[j]=ts[j]):=fun x y hx hy h=>by rw[<-hx,<-hy,h]
   clear hx hx'
   obtain⟨x,hxx⟩:∃ x,Hid (x=ss[j]):=⟨_,a0a rfl⟩
   obtain⟨y,hyy⟩:∃ y,Hid (y=ts[j]):=⟨_,a0a rfl⟩
   rw[<-hxx.out] at c0 HNe
   rw[<-hyy.out] at e0 HNe
   by_cases hxy:x=y
   ·have k4:(x != y)=false:=by simpa using hxy
    have HXY:=a0a hxy
    clear hxy
    go_wp2_with fail
    go_quiet (fail)
    have HB1:=a0a (a0j HB.out nq)
    go_wp2_with fail
    go_roundw
    case rel=>exact⟨j+1,by go_num,by omega,(fun q g1 g2 hq=>by
     by_cases he:q=j
     ·subst he
      exact HEq.out _ _ hxx.out hyy.out HXY.out
     ·exact HQ.out q g1 g2 (by omega)),HB1⟩
    case measure=>simp;omega
   ·have k4:(x != y)=true:=by simpa using hxy
    obtain rfl:=HNe.out hxy
    go_wp2_with fail
    go_quiet (fail)
    have HB1:=a0a (a0j HB.out nq)
    go_wp2_with fail
    go_ret
    exact⟨rfl,HB1.out⟩
  ·have hlt':¬(j:Int)<(N:Int):=by omega
   have hr:R=true:=by
    rw[hR.out]
    exact decide_eq_true (List.ext_getElem (by rw[<-hN.out,<-hN'.out]) (fun q g1 g2=>HQ.out q g1 g2 (by have:=hN.out;omega)))
   subst hr
   go_wp2_with fail
   go_ret
   exact⟨rfl,HB.out⟩
def mkF (k:Int)(ts ss:List Int):Int:=if ss=ts then k else 0
set_option maxHeartbeats 1000000 in
theorem c0l (k:Int)(ts ss:List Int)(p q:Nat)(c:Co)(ad a1:Option Addr)(n cap k1:Nat)(w:World)(hm:MkF w p q k ts)(h1:a1r w (.slice a1 ss.length k1) ss)(hs:ss.length<=9223372036854775806):
 Calls Tryz.prog 213 #[coV c (.slice ad n cap),.slice a1 ss.length k1,.pointer (some ⟨p,0,none⟩),.pointer (some ⟨q,0,none⟩)] w fun e w'=>e=.returned (.int .i64 (mkF k ts ss))/\Below w.heap.size w w':=by
 obtain⟨v,hv1,hv2⟩:=hm.tt
 obtain⟨a2,k2,rfl⟩:=hv2.shape
 have lp:=hm.lp
 have lq:=hm.lq
 have kk:=hm.kk
 have B1:∀ o,Below w.heap.size w (w.alloc o):=fun o=>(ZD _ _).alloc (ZB _) _
 have HC:=a0a (fun o=>b7j ss ts a1 a2 k1 k2 (w.alloc o) (h1.next (B1 o)) (hv2.next (B1 o)) hs)
 have HA:=a0a B1
 clear hm h1 hv2 B1
 unfold mkF
 by_cases h:ss=ts
 ·have HD:Hid (decide (ss=ts)=true):=decide_eq_true h
  rw[if_pos h]
  simp only[HD.out] at HC
  have hl:ss.length=ts.length:=by rw[h]
  rw[<-hl] at HC hv1
  clear h hl
  go_enter Tryz.func213,Tryz.ntmps213
  go_wp2_with fail
  refine ZE (HC.out _) ?_
  rintro e w1 ⟨rfl,b1⟩
  have HB:=a0a (a0b (HA.out _) b1 (by simp))
  have kk1:=(HB.out.cell (p:=⟨q,0,none⟩) lq).trans kk
  have lq1:=ZA lq HB.out.size
  clear b1 kk hv1
  go_wp2_with fail
  go_ret
  exact⟨rfl,HB.out⟩
 ·rw[if_neg h]
  have HD:Hid (decide (ss=ts)=false):=decide_eq_false h
  simp only[HD.out] at HC
  clear h
  go_enter Tryz.func213,Tryz.ntmps213
  go_wp2_with fail
  refine ZE (HC.out _) ?_
  rintro e w1 ⟨rfl,b1⟩
  have HB:=a0a (a0b (HA.out _) b1 (by simp))
  clear b1 kk hv1
  go_wp2_with fail
  go_ret
  exact⟨rfl,HB.out⟩
def a0R (k:Nat)(ss:List Int):Int:=if ss.length=k/\ss.headD 0≠3/\∀ x,x∈ss->x=ss.headD 0 then ss.headD 0 else 0
theorem a1H {k:Nat}{ss:List Int}(h:¬(ss.length=k/\ss.headD 0≠3/\∀ x,x∈ss->x=ss.headD 0)):a0R k ss=0:=if_neg h
theorem a6D {k:Nat}{ss:List Int}(h:ss.length=k/\ss.headD 0≠3/\∀ x,x∈ss->x=ss.headD 0):a0R k ss=ss.headD 0:=if_pos h
theorem b4b {ss:List Int}(h:0<ss.length):ss[0]=ss.headD 0:=by
 cases ss with
 | nil=>cases h
 | cons x r=>rfl
set_option maxHeartbeats 2000000 in
theorem a7O (k:Nat)(hk:1<=k)(hk2:k<=9)(ss:List Int)(a1:Option Addr)(k1:Nat)(w:World)(h1:a1r w (.slice a1 ss.length k1) ss)(hm:ss.length<=9223372036854775806):
 Calls Tryz.prog 218 #[.slice a1 ss.length k1,.int .i64 (k:Nat)] w fun e w'=>e=.returned (.int .i64 (a0R k ss))/\Below w.heap.size w w':=by
 have HL:=a0a h1
 obtain⟨R,hR⟩:∃ R,Hid (R=a0R k ss):=⟨_,rfl⟩
 rw[<-hR.out]
 obtain⟨N,hN⟩:∃ N,Hid (N=ss.length):=⟨_,rfl⟩
 rw[<-hN.out] at HL hm ⊢
 clear h1
 by_cases hl:N=k
 case neg=>
  have hr:R=0:=by rw[hR.out];exact a1H (fun h=>hl (by rw[hN.out];exact h.1))
  have k3:((N:Int) != (k:Int))=true:=by simp;omega
  subst hr
  go_enter Tryz.func218,Tryz.ntmps218
  go_wp2_with fail
  go_ret
  exact⟨rfl,ZD _ _⟩
 subst hl
 have h0:0<ss.length:=by rw[<-hN.out];omega
 obtain⟨b,off,rfl,hbl,hx⟩:=HL.out.open h0
 have HX:=a0a hx
 have c0:=hx 0 h0
 rw[b4b h0,Nat.add_zero] at c0
 obtain⟨s0,hs0⟩:∃ s,Hid (s=ss.headD 0):=⟨_,rfl⟩
 rw[<-hs0.out] at c0
 have k3:((N:Int) != (N:Int))=false:=by simp
 have hN0:(0:Int)<(N:Int):=by omega
 clear hx
 by_cases h3:s0=3
 case pos=>
  have hr:R=0:=by rw[hR.out];exact a1H (fun h=>h.2.1 (by rw[<-hs0.out];exact h3))
  subst hr h3
  go_enter Tryz.func218,Tryz.ntmps218
  go_wp2_with fail
  go_ret
  exact⟨rfl,ZD _ _⟩
 have k4:(s0==3)=false:=by simpa using h3
 go_enter Tryz.func218,Tryz.ntmps218
 go_wp2_with fail
 go_loopw [19] (fun i wr=>∃ j:Nat,i=.int .i64 (j:Nat)/\j<=N/\Hid (∀ q (h1:q<ss.length),q<j->ss[q]=s0)/\wr=w) (fun i _=>match i with | .int _ p=>((N:Int)-p).toNat | _=>0)
 case atStart=>exact⟨0,rfl,by omega,fun q _ h=>absurd h (by omega),rfl⟩
 case round=>
  obtain⟨j,rfl,hj,HQ,rfl⟩:=hrel
  by_cases hlt:j<N
  ·have hlt':(j:Int)<(N:Int):=by omega
   have h1:j<ss.length:=by rw[<-hN.out];exact hlt
   have cj:=HX.out j h1
   have HNe:Hid (ss[j]≠s0->R=0):=fun h=>by
    rw[hR.out]
    exact a1H (fun hh=>h (by rw[hs0.out];exact hh.2.2 _ (List.getElem_mem h1)))
   obtain⟨x,hxx⟩:∃ x,Hid (x=ss[j]):=⟨_,a0a rfl⟩
   rw[<-hxx.out] at cj HNe
   by_cases hxy:x=s0
   ·have k5:(x != s0)=false:=by simpa using hxy
    have HXY:=a0a hxy
    clear hxy
    go_wp2_with fail
    go_roundw
    case rel=>exact⟨j+1,by go_num,by omega,(fun q g1 hq=>by
     by_cases he:q=j
     ·subst he
      rw[<-hxx.out]
      exact HXY.out
     ·exact HQ.out q g1 (by omega)),by first | rfl | trivial⟩
    case measure=>simp;omega
   ·have k5:(x != s0)=true:=by simpa using hxy
    obtain rfl:=HNe.out hxy
    go_wp2_with fail
    go_ret
    exact⟨rfl,ZD _ _⟩
  ·have hlt':¬(j:Int)<(N:Int):=by omega
   have hr:R=s0:=by
    rw[hR.out,hs0.out]
    refine a6D ⟨hN.out.symm,by rw[<-hs0.out];exact h3,fun x hx=>?_⟩
    obtain⟨q,hq,rfl⟩:=List.getElem_of_mem hx
    rw[<-hs0.out]
    exact HQ.out q hq (by have:=hN.out;omega)
   subst hr
   go_wp2_with fail
   go_ret
   exact⟨rfl,ZD _ _⟩
def StC (fn:Nat)(F:Co->List Int->Int):Prop:=∀ (c:Co) (ss:List Int) (v:Value) (a1:Option Addr) (k1:Nat) (w:World),a0p w c v->ss.length=c.parts.length->ss.length<=8192->a1r w (.slice a1 ss.length k1) ss->ss.length<=k1->k1<=9223372036854775807->Calls Tryz.prog fn #[coV c v,.slice a1 ss.length k1] w fun e w'=>e=.returned (.int .i64 (F c ss))/\Below w.heap.size w w'
set_option maxHeartbeats 1000000 in
set_option maxRecDepth 20000 in
theorem c0k:StC 144 fun _ ss=>a0R 1 ss:=by
 intro c ss v a1 k1 w hs hlen hl h1 hk hk2
 clear hlen hk hk2
 obtain⟨ad,cap,rfl,-,-⟩:=hs.parts.shape
 have B1:∀ o,Below w.heap.size w (w.alloc o):=fun o=>(ZD _ _).alloc (ZB _) _
 have HC:=a0a (fun o=>a7O 1 (by omega) (by omega) ss a1 k1 (w.alloc o) (h1.next (B1 o)) (by omega))
 have HA:=a0a B1
 clear h1 B1 hs
 show Calls _ _ _ _ fun e w'=>e=.returned (.int .i64 (a0R 1 ss))/\_
 generalize a0R 1 ss=r at *
 go_enter Tryz.func144,Tryz.ntmps144
 go_wp2_with fail
 refine ZE (HC.out _) ?_
 rintro e w1 ⟨rfl,b1⟩
 have HB:=a0a (a0b (HA.out _) b1 (by simp))
 clear b1
 go_wp2_with fail
 go_ret
 exact⟨rfl,HB.out⟩
set_option maxHeartbeats 1000000 in
set_option maxRecDepth 20000 in
theorem b4K:StC 168 fun _ ss=>a0R 2 ss:=by
 intro c ss v a1 k1 w hs hlen hl h1 hk hk2
 clear hlen hk hk2
 obtain⟨ad,cap,rfl,-,-⟩:=hs.parts.shape
 have B1:∀ o,Below w.heap.size w (w.alloc o):=fun o=>(ZD _ _).alloc (ZB _) _
 have HC:=a0a (fun o=>a7O 2 (by omega) (by omega) ss a1 k1 (w.alloc o) (h1.next (B1 o)) (by omega))
 have HA:=a0a B1
 clear h1 B1 hs
 show Calls _ _ _ _ fun e w'=>e=.returned (.int .i64 (a0R 2 ss))/\_
 generalize a0R 2 ss=r at *
 go_enter Tryz.func168,Tryz.ntmps168
 go_wp2_with fail
 refine ZE (HC.out _) ?_
 rintro e w1 ⟨rfl,b1⟩
 have HB:=a0a (a0b (HA.out _) b1 (by simp))
 clear b1
 go_wp2_with fail
 go_ret
 exact⟨rfl,HB.out⟩
set_option maxHeartbeats 1000000 in
set_option maxRecDepth 20000 in
theorem c0m:StC 141 fun c ss=>if ss=[] then c.m else 0:=by
 intro c ss v a1 k1 w hs hlen hl h1 hk hk2
 clear hlen hk hk2
 have hfit:=hs.fit
 obtain⟨ad,cap,rfl,-,-⟩:=hs.parts.shape
 have B1:Hid (∀ o,Below w.heap.size w (w.alloc o)):=fun o=>(ZD _ _).alloc (ZB _) _
 have hm:=hfit.m
 unfold C64 at hm
 clear hs h1 hfit
 by_cases h:ss=[]
 ·subst h
  show Calls _ _ _ _ fun e w'=>e=.returned (.int .i64 c.m)/\_
  simp only[List.length_nil] at *
  go_enter Tryz.func141,Tryz.ntmps141
  go_wp2_with fail
  go_ret
  exact⟨rfl,B1.out _⟩
 ·have hp:0<ss.length:=List.length_pos_iff.2 h
  show Calls _ _ _ _ fun e w'=>e=.returned (.int .i64 (if ss=[] then c.m else 0))/\_
  rw[if_neg h]
  clear h
  generalize ss.length=N at *
  have k0:((N:Int) != 0)=true:=by simp;omega
  go_enter Tryz.func141,Tryz.ntmps141
  go_wp2_with fail
  go_ret
  exact⟨rfl,B1.out _⟩
def a1X (ss:List Int):Int:=if ss.headD 0=2 then a0R 2 ss.tail else 0
theorem b3T {w:World}{b off k:Nat}{x:Int}{r:List Int}(h:a1r w (.slice (some ⟨b,off,none⟩) (x::r).length k) (x::r))(k':Nat):a1r w (.slice (some ⟨b,off+1,none⟩) r.length k') r:=by
 obtain⟨b',off',ha,hb,hc⟩:=h.open (by simp)
 cases ha
 refine⟨_,_,rfl,.inr ⟨b,off+1,rfl,hb,fun i hi=>?_⟩⟩
 have:=hc (i+1) (by simpa using hi)
 rw[show off+1+i=off+(i+1) by omega]
 simpa using this
set_option maxHeartbeats 1000000 in
set_option maxRecDepth 20000 in
theorem b4N:StC 170 fun _ ss=>a1X ss:=by
 intro c ss v a1 k1 w hs hlen hl h1 hk hk2
 clear hlen
 obtain⟨ad,cap,rfl,-,-⟩:=hs.parts.shape
 have B1:∀ o,Below w.heap.size w (w.alloc o):=fun o=>(ZD _ _).alloc (ZB _) _
 have HA:=a0a B1
 cases ss with
 | nil=>
   show Calls _ _ _ _ fun e w'=>e=.returned (.int .i64 0)/\_
   clear hs h1
   simp only[List.length_nil] at *
   go_enter Tryz.func170,Tryz.ntmps170
   go_wp2_with fail
   go_ret
   exact⟨rfl,HA.out _⟩
 | cons x r=>
   obtain⟨b,off,rfl,hb,hc⟩:=h1.open (by simp)
   have c0:=hc 0 (by simp)
   simp only[Nat.add_zero,List.getElem_cons_zero] at c0
   have HT:=a0a (fun k'=>b3T h1 k')
   have HC:Hid (∀ o a k',(r=[]\/a=some ⟨b,off+1,none⟩)->Calls Tryz.prog 218 #[.slice a r.length k',.int .i64 2] (w.alloc o) fun e w'=>e=.returned (.int .i64 (a0R 2 r))/\Below (w.alloc o).heap.size (w.alloc o) w'):=fun o a k' ha=>a7O 2 (by omega) (by omega) r a k' (w.alloc o) (by
    rcases ha with ha | ha
    ·subst ha;exact⟨_,_,rfl,.inl rfl⟩
    ·subst ha;exact(HT.out k').next (B1 o)) (by simp at hl;omega)
   simp only[List.length_cons] at *
   clear hs h1 hc B1 HT
   show Calls _ _ _ _ fun e w'=>e=.returned (.int .i64 (if x=2 then a0R 2 r else 0))/\_
   generalize hr:r.length=N at *
   have k0:((((N+1:Nat):Int))==0)=false:=by simp;omega
   have k0':(((N:Int)+1)==0)=false:=by simp;omega
   have hN0:(0:Int)<(N:Int)+1:=by omega
   by_cases h2:x=2
   ·subst h2
    rw[if_pos rfl]
    generalize a0R 2 r=rr at *
    go_enter Tryz.func170,Tryz.ntmps170
    go_wp2_with fail
    all_goals try simp only[Nat.add_sub_cancel]
    ·rename_i hk1
     refine ZE (HC.out _ _ _ (.inl (List.eq_nil_of_length_eq_zero (by omega)))) ?_
     rintro e w1 ⟨rfl,b1⟩
     have HB:=a0a (a0b (HA.out _) b1 (by simp))
     clear b1
     go_wp2_with fail
     go_ret
     exact⟨rfl,HB.out⟩
    ·refine ZE (HC.out _ _ _ (.inr rfl)) ?_
     rintro e w1 ⟨rfl,b1⟩
     have HB:=a0a (a0b (HA.out _) b1 (by simp))
     clear b1
     go_wp2_with fail
     go_ret
     exact⟨rfl,HB.out⟩
   ·rw[if_neg h2]
    have k2:(x != 2)=true:=by simpa using h2
    go_enter Tryz.func170,Tryz.ntmps170
    go_wp2_with fail
    go_ret
    exact⟨rfl,HA.out _⟩
end Go.Proofs.YtbddbnjhmdbkbaaGreatDoor

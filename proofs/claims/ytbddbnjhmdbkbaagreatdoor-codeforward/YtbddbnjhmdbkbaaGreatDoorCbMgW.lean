import Derived.Test.YtbddbnjhmdbkbaaGreatDoorCbMoM
import Derived.Laws.Bits64b
import Derived.WalkSpells
import Derived.BigQuiet
import Derived.Deep.RegionHeld3
import Derived.Deep.MidRow
namespace Go.Proofs.YtbddbnjhmdbkbaaGreatDoor
open Go.RowKit
def a3t (p:Nat->Bool):Nat->Nat
 | 0=>0
 | n+1=>a3t p n+if p n then 2^n else 0
theorem a3s (p:Nat->Bool):∀ n,a3t p n<2^n
 | 0=>by simp[a3t]
 | n+1=>by
   have h:=a3s p n
   unfold a3t
   rw[Nat.pow_succ]
   split<;>omega
theorem a3Z (p:Nat->Bool)(i:Nat):∀ n,(a3t p n).testBit i=(decide (i<n)&&p i)
 | 0=>by simp[a3t]
 | n+1=>by
   have ih:=a3Z p i n
   unfold a3t
   by_cases hp:p n=true
   ·rw[if_pos hp,Nat.add_comm]
    rcases Nat.lt_trichotomy i n with h | h | h
    ·rw[Nat.testBit_two_pow_add_gt h,ih]
     simp[h,Nat.lt_succ_of_lt h]
    ·subst h
     rw[Nat.testBit_two_pow_add_eq,ih]
     simp[hp]
    ·have hl:=a3s p (n+1)
     unfold a3t at hl
     rw[if_pos hp,Nat.add_comm] at hl
     rw[Nat.testBit_lt_two_pow (ZA hl (Nat.pow_le_pow_right (by decide) h))]
     simp;omega
   ·rw[if_neg hp,Nat.add_zero,ih]
    by_cases h:i=n
    ·subst h;simp[Bool.eq_false_iff.2 hp]
    ·have e:decide (i<n+1)=decide (i<n):=by rw[decide_eq_decide];omega
     rw[e]
def a5V (a n m:Nat):Nat:=a3t (fun k=>decide (a<=k/\k<m/\(k-a)%n=0)) 64
def evS (a b n:Nat):Nat:=a5V a n (b+1)
theorem a1H (a n m i:Nat):(a5V a n m).testBit i=decide (i<64/\a<=i/\i<m/\(i-a)%n=0):=by
 unfold a5V
 rw[a3Z]
 simp[Bool.decide_and]
theorem a3L (a n m:Nat):a5V a n m<18446744073709551616:=a3s _ 64
theorem a5F (a n:Nat):a5V a n a=0:=by
 apply Nat.eq_of_testBit_eq
 intro i
 rw[a1H,Nat.zero_testBit,decide_eq_false_iff_not]
 omega
theorem a5a {a n m i:Nat}(h0:a<=m)(hm:(m-a)%n=0)(hi:m<=i)(hj:i<m+n):(i-a)%n=0↔i=m:=by
 have e:i-a=(m-a)+(i-m):=by omega
 rw[e,Nat.add_mod,hm,Nat.zero_add,Nat.mod_mod,Nat.mod_eq_of_lt (by omega)]
 omega
theorem a3M (a n m i:Nat)(h0:a<=m)(hm:(m-a)%n=0)(hn:1<=n)(hlt:m<64):(a5V a n (m+n)).testBit i=((a5V a n m).testBit i||decide (m=i)):=by
 rw[a1H,a1H,<-Bool.decide_or,decide_eq_decide]
 constructor
 ·rintro⟨h1,h2,h3,h4⟩
  by_cases hk:i<m
  ·exact .inl ⟨h1,h2,hk,h4⟩
  ·exact .inr ((a5a h0 hm (by omega) h3).1 h4).symm
 ·rintro(⟨h1,h2,h3,h4⟩ | h)
  ·exact⟨h1,h2,by omega,h4⟩
  ·subst h;exact⟨hlt,h0,by omega,hm⟩
theorem a6I (a n m:Nat)(h0:a<=m)(hm:(m-a)%n=0)(hn:1<=n)(hlt:m<64):a5V a n m|||2^m=a5V a n (m+n):=by
 apply Nat.eq_of_testBit_eq
 intro i
 rw[Nat.testBit_or,Nat.testBit_two_pow,a3M a n m i h0 hm hn hlt]
theorem a7L (a b n m:Nat)(h0:a<=m)(hm:(m-a)%n=0)(h1:b<m)(h2:m<=b+n)(hab:a<=b):a5V a n m=evS a b n:=by
 apply Nat.eq_of_testBit_eq
 intro i
 unfold evS
 rw[a1H,a1H,decide_eq_decide]
 constructor
 ·rintro⟨k1,k2,k3,k4⟩
  refine⟨k1,k2,?_,k4⟩
  by_cases hk:i<b+1
  ·exact hk
  ·exfalso
   have hn:a+n<=m:=by
    have:n<=m-a:=by
     rcases Nat.eq_zero_or_pos (m-a) with h | h
     ·omega
     ·exact Nat.le_of_dvd h (Nat.dvd_of_mod_eq_zero hm)
    omega
   have hm':(m-n-a)%n=0:=by
    have e:m-a=(m-n-a)+n:=by omega
    rw[e,Nat.add_mod_right] at hm
    exact hm
   have:=(a5a (a:=a) (n:=n) (m:=m-n) (i:=i) (by omega) hm' (by omega) (by omega)).1 k4
   omega
 ·rintro⟨k1,k2,k3,k4⟩
  exact⟨k1,k2,by omega,k4⟩
def a3g:Nat->Nat
 | 0=>0 | 1=>0 | 2=>1 | 3=>1 | _=>0
def a1r:Nat->Nat
 | 0=>59 | 1=>23 | 2=>31 | 3=>12 | _=>6
theorem a7E (i:Nat):a1r i<64:=by
 unfold a1r;split<;>decide
theorem a7v (i:Nat):a3g i<=a1r i:=by
 unfold a3g a1r;split<;>simp
theorem a4U {a:Nat}(h:a<64):2^a<18446744073709551616:=Nat.pow_lt_pow_right (by decide) h
structure Cr where
 a:Nat
 b:Nat
 c:Nat
 d:Nat
 e:Nat
theorem a5m (m:Nat):((2^m:Nat):Int)=(2:Int)^m:=by simp
theorem a8t (m:Nat)(h:m<64):IntKind.u64.wrap ((2:Int)^m)=(2:Int)^m:=by
 have h1:((2^m:Nat):Int)<18446744073709551616:=by have:=a4U h;omega
 have h0:0<=((2^m:Nat):Int):=Int.natCast_nonneg _
 rw[a5m] at h0 h1
 rw[IntKind.wrap_u64]
 exact Int.emod_eq_of_lt h0 h1
set_option maxHeartbeats 400000 in
theorem a6H (a b k:Nat)(hab:a<=b)(hS:b<64)(hk1:1<=k)(hk:k<=99)(w:World):
 Calls Tryz.prog 212 #[.int .i64 a,.int .i64 b,.int .i64 k] w fun e w'=>e=.returned (.int .u64 (evS a b k:Nat))/\w=w':=by
 go_enter Tryz.func212,Tryz.ntmps212
 go_wp2_with fail
 go_loopw [7,8] (fun p q wr=>∃ m:Nat,p=.int .u64 (a5V a k m:Nat)/\q=.int .i64 m/\a<=m/\(m-a)%k=0/\m<=b+k/\w=wr) (fun _ q _=>(200-intOf q).toNat)
 case atStart=>exact⟨a,by rw[a5F];rfl,rfl,ZC _,by simp,by omega,rfl⟩
 case round=>
  obtain⟨m,rfl,rfl,h0,hm,h1,rfl⟩:=hrel
  by_cases hlt:m<=b
  ·have e:=a6I a k m h0 hm hk1 (by omega)
   have hm':(m+k-a)%k=0:=by rw[show m+k-a=(m-a)+k by omega,Nat.add_mod_right];exact hm
   have E:Hid _:=e
   have HM:Hid _:=hm'
   clear e hm hm'
   have q1:=a3L a k m
   have e2:=bits_or_u64_nat (a5V a k m) (2^m) q1 (a4U (show m<64 by omega))
   rw[E.out,a5m] at e2
   have e1:=a8t m (by omega)
   go_wp2_with fail
   exact⟨⟨m+k,rfl,by go_num,by omega,HM.out,by omega,trivial⟩,by simp[intOf];omega⟩
  ·have e:=a7L a b k m h0 hm (by omega) h1 hab
   have E:Hid _:=e
   clear e hm
   go_wp2_with fail
   go_ret
   exact⟨by rw[E.out];rfl,rfl⟩
abbrev b0v (lo hi:Nat):Value:=.agg #[.int .i64 lo,.int .i64 hi]
abbrev a9K (c:Cr):Value:=.agg #[.int .u64 (c.a:Nat),.int .u64 (c.b:Nat),.int .u64 (c.c:Nat),.int .u64 (c.d:Nat),.int .u64 (c.e:Nat)]
abbrev a3J:List Value:=[.int .i64 0,.int .i64 59,.int .i64 0,.int .i64 23,.int .i64 1,.int .i64 31,.int .i64 1,.int .i64 12,.int .i64 0,.int .i64 6]
def a1M (w:World):Prop:=w.rangeAt 1 0 a3J/\1<w.heap.size
theorem a1M.later {w w':World}(h:a1M w)(hb:Below w.heap.size w w'):a1M w':=
 ⟨fun j v hv=>(hb.cell (p:=⟨1,0+j,none⟩) h.2).trans (h.1 j v hv),ZA h.2 hb.size⟩
theorem a1M.cell {w:World}(h:a1M w)(j:Nat)(v:Value)(hv:a3J[j]? = some v):w.cell? ⟨1,j,none⟩=some v:=by
 have:=h.1 j v hv
 rwa [Nat.zero_add] at this
abbrev u5 (a b c d e:Nat):List Value:=[.int .u64 (a:Nat),.int .u64 (b:Nat),.int .u64 (c:Nat),.int .u64 (d:Nat),.int .u64 (e:Nat)]
theorem a4K {w:World}(o o':Obj):Below w.heap.size w ((w.alloc o).alloc o'):=((ZE _ _).alloc (ZC _) _).alloc (by simp) _
theorem a7l (a b c d e:Nat)(w:World):
 Calls Tryz.prog 128 #[a9K ⟨a,b,c,d,e⟩] w fun x w'=>x=.returned (.agg (u5 a b c d e).toArray)/\Below w.heap.size w w':=by
 go_enter Tryz.func128,Tryz.ntmps128
 go_wp2_with fail
 refine bodyPost_ret (v:=.agg (u5 a b c d e).toArray) (by simp[results,Tryz.results128,go_sem]) rfl ⟨rfl,a4K _ _⟩
def Cr.get (c:Cr):Nat->Nat
 | 0=>c.a | 1=>c.b | 2=>c.c | 3=>c.d | _=>c.e
structure Cr.Fits (x:Cr):Prop where
 a:x.a<18446744073709551616
 b:x.b<18446744073709551616
 c:x.c<18446744073709551616
 d:x.d<18446744073709551616
 e:x.e<18446744073709551616
theorem Cr.Fits.get {c:Cr}(h:c.Fits)(i:Nat):c.get i<18446744073709551616:=by
 unfold Cr.get
 split
 ·exact h.a
 ·exact h.b
 ·exact h.c
 ·exact h.d
 ·exact h.e
def okB (S lo hi:Nat):Bool:=decide (S≠0)&&(List.range 64).all fun i=>!S.testBit i||(decide (lo<=i)&&decide (i<=hi))
def cfB (c:Cr):Bool:=(List.range 5).all fun i=>okB (c.get i) (a3g i) (a1r i)
theorem a6W (c:Cr):cfB c=true↔∀ i,i<5->okB (c.get i) (a3g i) (a1r i)=true:=by
 unfold cfB
 rw[List.all_eq_true]
 exact⟨fun h i hi=>h i (List.mem_range.2 hi),fun h i hi=>h i (List.mem_range.1 hi)⟩
theorem a8k {c:Cr}{i:Nat}(hi:i<5)(h:okB (c.get i) (a3g i) (a1r i)=false):cfB c=false:=by
 cases hc:cfB c with
 | false=>rfl
 | true=>rw[(a6W c).1 hc i hi] at h;cases h
theorem a5Z (A i:Nat)(hA:A<18446744073709551616):(18446744073709551615-A).testBit i=(decide (i<64) && !A.testBit i):=by
 have e:18446744073709551615-A=2^64-(A+1):=by omega
 rw[e,Nat.testBit_two_pow_sub_succ (show A<2^64 from hA)]
theorem a8D (S lo hi:Nat)(hS:S<18446744073709551616):okB S lo hi=(decide (S≠0)&&decide (S&&&(18446744073709551615-evS lo hi 1)=0)):=by
 unfold okB
 congr 1
 rw[Bool.eq_iff_iff,List.all_eq_true,decide_eq_true_eq]
 constructor
 ·intro h
  apply Nat.eq_of_testBit_eq
  intro i
  unfold evS
  rw[Nat.testBit_and,a5Z _ _ (a3L _ _ _),Nat.zero_testBit,a1H]
  by_cases hi64:i<64
  ·have:=h i (List.mem_range.2 hi64)
   cases hb:S.testBit i with
   | false=>rfl
   | true=>
     rw[hb] at this
     simp at this
     simp[hi64,this.1,Nat.lt_succ_of_le this.2,Nat.mod_one]
  ·rw[Nat.testBit_lt_two_pow (ZA (show S<2^64 from hS) (Nat.pow_le_pow_right (by decide) (by omega)))]
   rfl
 ·intro h i hi64
  have hi64:=List.mem_range.1 hi64
  have hb:=congrArg (fun x=>Nat.testBit x i) h
  simp only[Nat.testBit_and,Nat.zero_testBit] at hb
  unfold evS at hb
  rw[a5Z _ _ (a3L _ _ _),a1H] at hb
  cases hb2:S.testBit i with
  | false=>rfl
  | true=>
    rw[hb2] at hb
    simp[hi64,Nat.mod_one] at hb
    simp
    omega
theorem a9r (lo hi:Nat)(h:lo<=hi)(hh:hi<64)(w:World):
 Calls Tryz.prog 129 #[b0v lo hi] w fun e w'=>e=.returned (.int .u64 (evS lo hi 1:Nat))/\Below w.heap.size w w':=by
 have hv:=a6H lo hi 1 h hh (by decide) (by decide)
 go_enter Tryz.func129,Tryz.ntmps129
 go_wp2_with fail
 refine(hv _).mono ?_
 rintro e w1 ⟨rfl,rfl⟩
 go_wp2_with fail
 go_ret
 exact⟨rfl,(ZE _ _).alloc (ZC _) _⟩
theorem a8Q (c:Cr)(k:Nat)(h:k<5)(w:World):(Instr.index 155 (.agg (u5 c.a c.b c.c c.d c.e).toArray) (.int .i64 k)).run Tryz.prog w=.ok (.int .u64 (c.get k:Nat)) w:=by
 rcases(show k=0\/k=1\/k=2\/k=3\/k=4 by omega) with rfl | rfl | rfl | rfl | rfl
 all_goals kernel_rfl
theorem a1M.row {w:World}(h:a1M w)(i:Nat)(hi:i<5):w.cell? ⟨1,i*2,none⟩=some (.int .i64 (a3g i:Nat))/\w.cell? ⟨1,i*2+1,none⟩=some (.int .i64 (a1r i:Nat)):=by
 rcases(show i=0\/i=1\/i=2\/i=3\/i=4 by omega) with rfl | rfl | rfl | rfl | rfl
 all_goals exact⟨h.cell _ _ rfl,h.cell _ _ rfl⟩
def a3r (c:Cr)(w:World)(e:Ending)(w':World):Prop:=e=.returned (.bool (cfB c))/\Below w.heap.size w w'
set_option maxHeartbeats 4000000 in
theorem a5T (c:Cr)(fc:c.Fits)(w:World)(hF:a1M w):
 Calls Tryz.prog 77 #[a9K c] w (a3r c w):=by
 obtain⟨cb,l0⟩:=a0D w 66 (u5 c.a c.b c.c c.d c.e)
 obtain⟨o0,o1,o2,o3,o4,_⟩:=cb.five
 have hs:=a7l c.a c.b c.c c.d c.e
 go_enter Tryz.func77,Tryz.ntmps77
 go_wp2_with fail
 refine(hs _).mono ?_
 rintro e w1 ⟨rfl,hb1⟩
 go_wp2_with fail
 have hF1:=(hF.later l0).later hb1
 have bl1:=l0.trans (hb1.mono l0.size)
 go_loopw [7] (fun p wr=>∃ i:Nat,p=.int .i64 i/\i<=5/\(∀ j,j<i->okB (c.get j) (a3g j) (a1r j)=true)/\a1M wr/\Below w.heap.size w wr) (fun p _=>(5-intOf p).toNat)
 case atStart=>exact⟨0,rfl,by decide,fun j hj=>absurd hj (by omega),hF1,bl1⟩
 case round=>
  obtain⟨i,rfl,hi,hok,hFr,bl⟩:=hrel
  by_cases hlt:i<5
  ·have hix:=a8Q c i hlt
   have k1:(i:Int)<5:=by omega
   have hfi:=fc.get i
   have hall:=fun wx=>a9r (a3g i) (a1r i) (a7v i) (a7E i) wx
   have hand:=u64_andNot_nat (c.get i) (evS (a3g i) (a1r i) 1) hfi (a3L _ _ _)
   have hokb:=a8D (c.get i) (a3g i) (a1r i) hfi
   obtain⟨q0,q1⟩:=hFr.row i hlt
   by_cases h0:c.get i=0
   ·have hno:=a8k (c:=c) hlt (by rw[hokb,h0];rfl)
    have h0':(((c.get i:Nat):Int)==0)=true:=beq_iff_eq.2 (by omega)
    have HNO:Hid _:=hno
    clear hokb hno hand hok h0
    generalize c.get i=S at *
    generalize a3g i=lo at *
    generalize a1r i=hi5 at *
    go_wp2_with fail
    go_ret
    exact⟨by rw[HNO.out];rfl,bl⟩
   ·have h0':(((c.get i:Nat):Int)==0)=false:=beq_eq_false_iff_ne.2 (by omega)
    by_cases hx:c.get i&&&(18446744073709551615-evS (a3g i) (a1r i) 1)=0
    ·have hk:okB (c.get i) (a3g i) (a1r i)=true:=by rw[hokb];simp[h0,hx]
     have hok':∀ j,j<i+1->okB (c.get j) (a3g j) (a1r j)=true:=fun j hj=>by
      rcases Nat.lt_or_ge j i with h | h
      ·exact hok j h
      ·obtain rfl:j=i:=by omega
       exact hk
     rw[hx] at hand
     have HX:Hid _:=hok'
     clear hok hk hokb hok' hx h0
     generalize evS (a3g i) (a1r i) 1=A at *
     generalize c.get i=S at *
     generalize a3g i=lo at *
     generalize a1r i=hi5 at *
     go_wp2_with fail
     refine(hall _).mono ?_
     rintro e w2 ⟨rfl,hb2⟩
     go_wp2_with fail
     exact⟨⟨i+1,by go_num,by omega,HX.out,hFr.later hb2,bl.trans (hb2.mono bl.size)⟩,by simp[intOf];omega⟩
    ·have hno:=a8k (c:=c) hlt (by rw[hokb];simp[hx])
     have hx':((((c.get i&&&(18446744073709551615-evS (a3g i) (a1r i) 1):Nat):Int) != 0))=true:=bne_iff_ne.2 (by omega)
     have HNO:Hid _:=hno
     clear hok hokb hno hx h0
     generalize c.get i&&&(18446744073709551615-evS (a3g i) (a1r i) 1)=X at *
     generalize evS (a3g i) (a1r i) 1=A at *
     generalize c.get i=S at *
     generalize a3g i=lo at *
     generalize a1r i=hi5 at *
     go_wp2_with fail
     refine(hall _).mono ?_
     rintro e w2 ⟨rfl,hb2⟩
     go_wp2_with fail
     go_ret
     exact⟨by rw[HNO.out];rfl,bl.trans (hb2.mono bl.size)⟩
  ·obtain rfl:i=5:=by omega
   have hyes:=(a6W c).2 hok
   have HNO:Hid _:=hyes
   clear hyes hok
   go_wp2_with fail
   go_ret
   exact⟨by rw[HNO.out];rfl,bl⟩
def tv (m a s p:Int):Value:=.agg #[.int .i64 m,.int .i64 a,.int .i64 s,.int .i64 p]
def a8n (m a s p:Int):Prop:=0<=m/\1<=a/\a<=6/\1<=s/\s<=604800/\(a=6->1<=p/\p<=100000000)/\(a≠6->p=0)
def a2I (m a s p:Int):Bool:=decide (0<=m/\1<=a/\a<=6/\1<=s/\s<=604800/\(a=6->1<=p/\p<=100000000)/\(a≠6->p=0))
theorem a3e {m a s p:Int}(h:a8n m a s p):a2I m a s p=true:=decide_eq_true h
theorem a1A {m a s p:Int}(h:¬ a8n m a s p):a2I m a s p=false:=decide_eq_false h
set_option maxRecDepth 20000 in
set_option maxHeartbeats 1000000 in
theorem a9y (m a s p:Int)(w:World):
 Calls Tryz.prog 75 #[tv m a s p] w fun e w'=>e=.returned (.bool (a2I m a s p))/\Below w.heap.size w w':=by
 obtain⟨hR,hB⟩:=a0D w 63 [.int .i64 m,.int .i64 a,.int .i64 s,.int .i64 p]
 have HB:=hid hB
 clear hB hR
 generalize hx:a2I m a s p=x
 have HX:=hid hx
 clear hx
 simp only[tv]
 by_cases h1:m<0\/s<1\/604800<s
 ·have e1:x=false:=by rw[<-HX.out];exact a1A (fun ⟨r1,r2,r3,r4,r5,r6,r7⟩=>by omega)
  subst e1
  rcases h1 with h1 | h1 | h1
  ·go_enter Tryz.func75,Tryz.ntmps75
   go_wp2_with fail
   go_ret
   exact⟨rfl,HB.out⟩
  ·by_cases h2:m<0
   all_goals (
    go_enter Tryz.func75,Tryz.ntmps75
    go_wp2_with fail
    go_ret
    exact⟨rfl,HB.out⟩)
  ·have h3:¬ s<1:=by omega
   by_cases h2:m<0
   all_goals (
    go_enter Tryz.func75,Tryz.ntmps75
    go_wp2_with fail
    go_ret
    exact⟨rfl,HB.out⟩)
 ·have k1:¬ m<0:=by omega
  have k2:¬ s<1:=by omega
  have k3:¬ 604800<s:=by omega
  clear h1
  by_cases h4:a=6
  ·subst h4
   by_cases h5:1<=p
   ·by_cases h6:p<=100000000
    ·have e1:x=true:=by rw[<-HX.out];exact a3e ⟨by omega,by omega,by omega,by omega,by omega,fun _=>by omega,fun _=>by omega⟩
     subst e1
     go_enter Tryz.func75,Tryz.ntmps75
     go_wp2_with fail
     go_ret
     exact⟨rfl,HB.out⟩
    ·have e1:x=false:=by rw[<-HX.out];exact a1A (fun ⟨r1,r2,r3,r4,r5,r6,r7⟩=>by omega)
     subst e1
     go_enter Tryz.func75,Tryz.ntmps75
     go_wp2_with fail
     go_ret
     exact⟨rfl,HB.out⟩
   ·have e1:x=false:=by rw[<-HX.out];exact a1A (fun ⟨r1,r2,r3,r4,r5,r6,r7⟩=>by omega)
    subst e1
    go_enter Tryz.func75,Tryz.ntmps75
    go_wp2_with fail
    go_ret
    exact⟨rfl,HB.out⟩
  ·have h4':(a==6)=false:=by simpa using h4
   by_cases h5:1<=a
   ·by_cases h6:a<6
    ·by_cases h7:p=0
     ·have e1:x=true:=by rw[<-HX.out];exact a3e ⟨by omega,by omega,by omega,by omega,by omega,fun _=>by omega,fun _=>by omega⟩
      subst e1
      subst h7
      go_enter Tryz.func75,Tryz.ntmps75
      go_wp2_with fail
      go_ret
      exact⟨rfl,HB.out⟩
     ·have e1:x=false:=by rw[<-HX.out];exact a1A (fun ⟨r1,r2,r3,r4,r5,r6,r7⟩=>by omega)
      subst e1
      have h7':(p==0)=false:=by simpa using h7
      clear h7
      go_enter Tryz.func75,Tryz.ntmps75
      go_wp2_with fail
      go_ret
      exact⟨rfl,HB.out⟩
    ·have e1:x=false:=by rw[<-HX.out];exact a1A (fun ⟨r1,r2,r3,r4,r5,r6,r7⟩=>by omega)
     subst e1
     go_enter Tryz.func75,Tryz.ntmps75
     go_wp2_with fail
     go_ret
     exact⟨rfl,HB.out⟩
   ·have e1:x=false:=by rw[<-HX.out];exact a1A (fun ⟨r1,r2,r3,r4,r5,r6,r7⟩=>by omega)
    subst e1
    go_enter Tryz.func75,Tryz.ntmps75
    go_wp2_with fail
    go_ret
    exact⟨rfl,HB.out⟩
end Go.Proofs.YtbddbnjhmdbkbaaGreatDoor

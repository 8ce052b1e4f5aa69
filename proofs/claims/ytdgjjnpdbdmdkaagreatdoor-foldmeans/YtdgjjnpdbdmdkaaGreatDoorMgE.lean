import Derived.Test.YtdgjjnpdbdmdkaaGreatDoorMgK
import Derived.Test.YtdgjjnpdbdmdkaaGreatDoorMgM
section
namespace Go.Proofs.YtdgjjnpdbdmdkaaGreatDoor
open Go.RowKit
abbrev GPr:=(Co×Value)×(Co×Value)
def flG (xs:List GPr):List Value:=(xs.map fun x=>coL x.1.1 x.1.2++coL x.2.1 x.2.2).flatten
theorem a4s (xs:List GPr):(flG xs).length=xs.length*8:=by
 induction xs with
 | nil=>rfl
 | cons x r ih=>simp only[flG,List.map_cons,List.flatten_cons,List.length_append,List.length_cons] at ih ⊢;simp at ih ⊢;omega
theorem a5O:∀ (xs:List GPr) (i:Nat) (hi:i<xs.length) (j:Nat) (u:Value),(coL xs[i].1.1 xs[i].1.2++coL xs[i].2.1 xs[i].2.2)[j]? = some u->(flG xs)[i*8+j]? = some u
 | x::r,0,_,j,u,h=>by
   have hj:j<8:=by have:=(List.getElem?_eq_some_iff.1 h).1;simpa using this
   simp only[flG,List.map_cons,List.flatten_cons,Nat.zero_mul,Nat.zero_add]
   rw[List.getElem?_append_left (by simpa using hj)]
   exact h
 | x::r,i+1,hi,j,u,h=>by
   have:=a5O r i (by simpa using hi) j u (by simpa using h)
   simp only[flG,List.map_cons,List.flatten_cons] at this ⊢
   rw[List.getElem?_append_right (by simp;omega)]
   have e:(i+1)*8+j-(coL x.1.1 x.1.2++coL x.2.1 x.2.2).length=i*8+j:=by simp;omega
   rw[e]
   exact this
theorem b0Y (xs:List GPr)(k:Nat)(hk:k<xs.length)(x:GPr):flG (xs.set k x)=(((((((((flG xs).set (k*8) (.int .i64 x.1.1.op)).set (k*8+1) (.int .i64 x.1.1.n)).set (k*8+2) (.int .i64 x.1.1.m)).set (k*8+3) (x.1.2)).set (k*8+4) (.int .i64 x.2.1.op)).set (k*8+5) (.int .i64 x.2.1.n)).set (k*8+6) (.int .i64 x.2.1.m)).set (k*8+7) (x.2.2)):=by
 induction xs generalizing k with
 | nil=>simp at hk
 | cons y r ih=>
   cases k with
   | zero=>simp[flG]
   | succ k=>
     have:=ih k (by simpa using hk)
     simp only[flG,List.set_cons_succ,List.map_cons,List.flatten_cons] at this ⊢
     rw[this]
     have e0:(k+1)*8=k*8+1+1+1+1+1+1+1+1:=by omega
     simp only[e0,List.cons_append,List.nil_append,List.set_cons_succ]
theorem b4L {w w':World}{g n c:Nat}{e:TypeId}{k:Nat}{xs:List Value}(h:w.ownsRow g e k (.slice (some ⟨g,0,none⟩) n c) n xs)(hk:w'.heap[g]? = w.heap[g]?):w'.ownsRow g e k (.slice (some ⟨g,0,none⟩) n c) n xs:=by
 obtain⟨h1,⟨h2,h3⟩ | ⟨g',cap,cur,h2,h3,h4,h5⟩⟩:=h
 ·cases h2
 ·have h2':=h2
  simp only[Value.slice.injEq,Option.some.injEq,Addr.mk.injEq,and_true,true_and] at h2'
  obtain⟨rfl,rfl⟩:=h2'
  exact⟨h1,.inr ⟨g,c,cur,h2,h3,hk.trans h4,h5⟩⟩
def a9I (w:World)(x:Co×Co)(lo hi:Nat)(v u:Value):Prop:=∃ m,lo<=m/\m<=hi/\a2W w x.1 lo m v/\a2W w x.2 m hi u
theorem a9I.keep {w w':World}{x:Co×Co}{lo hi:Nat}{v u:Value}(hs:w.heap.size<=w'.heap.size)(hk:∀ b,lo<=b->b<hi->w'.heap[b]? = w.heap[b]?)(h:a9I w x lo hi v u):a9I w' x lo hi v u:=by
 obtain⟨m,h1,h2,h3,h4⟩:=h
 exact⟨m,h1,h2,a2W.keep hs _ _ _ _ (fun b hb1 hb2=>hk b hb1 (by omega)) h3,a2W.keep hs _ _ _ _ (fun b hb1 hb2=>hk b (by omega) hb2) h4⟩
theorem a9I.wide {w:World}{x:Co×Co}{lo lo' hi:Nat}{v u:Value}(h:a9I w x lo hi v u)(h1:lo'<=lo):a9I w x lo' hi v u:=by
 obtain⟨m,q1,q2,q3,q4⟩:=h
 exact⟨m,by omega,q2,q3.wide h1 (Nat.le_refl _),q4⟩
def a7y (w:World)(gs:List (Co×Co))(lo hi:Nat)(v:Value):Prop:=
 lo<=hi/\((gs.length=0/\v=.slice none 0 0)\/∃ (g:Nat) (s:Nat->Nat) (us vs:Nat->Value),v=.slice (some ⟨g,0,none⟩) gs.length gs.length/\lo<=g/\g<s 0/\s gs.length<=hi/\g<w.heap.size/\((∀ j,j<gs.length*8->w.frozen? ⟨g,j,none⟩=false)/\∃ cs,w.ownsRow g 58 8 (.slice (some ⟨g,0,none⟩) gs.length gs.length) gs.length cs) /\
  ∀ i (h:i<gs.length),a1D w g (i*8) gs[i].1 (us i)/\a1D w g (i*8+4) gs[i].2 (vs i)/\s i<=s (i+1)/\a9I w gs[i] (s i) (s (i+1)) (us i) (vs i))
theorem a4p {w0 w:World}{gs:List (Co×Co)}{v u:Value}{lo hi:Nat}(hs:a5q w0 v gs)(hn:a7y w gs lo hi u):a5q w u gs:=by
 obtain⟨-,⟨h1,rfl⟩ | ⟨g,s,us,vs,rfl,q1,q2,q3,q4,q5,q6⟩⟩:=hn
 ·exact⟨none,0,by rw[h1],by omega,by omega,.inl h1⟩
 ·obtain⟨ad,cap,hv,hl,hc,hp⟩:=hs
  refine⟨_,_,rfl,Nat.le_refl _,by omega,.inr ⟨g,0,rfl,q4,fun i hi=>?_⟩⟩
  rcases hp with hp | ⟨b,off,-,-,hp⟩
  ·omega
  ·obtain⟨u1,u2,-,-,s1,s2⟩:=hp i hi
   obtain⟨r1,r2,r3,m,r4,r5,r6,r7⟩:=q6 i hi
   exact⟨us i,vs i,by rw[Nat.zero_add];exact r1,by rw[Nat.zero_add];exact r2,a1f _ u1 _ _ _ s1 r6,a1f _ u2 _ _ _ s2 r7⟩
structure b6J (w3:World)(g:Nat)(gs:List (Co×Co))(k:Nat)(xs:List GPr)(s:Nat->Nat)(wr:World):Prop where
 len:xs.length=gs.length
 box:Box wr g (flG xs)
 s0:g<s 0
 mono:∀ i,i<k->s i<=s (i+1)
 top:s k<=wr.heap.size
 own:∃ cs,wr.ownsRow g 58 8 (.slice (some ⟨g,0,none⟩) gs.length gs.length) gs.length cs
 it:∀ i (h:i<gs.length) (h2:i<xs.length),i<k->xs[i].1.1=gs[i].1/\xs[i].2.1=gs[i].2/\a9I wr gs[i] (s i) (s (i+1)) xs[i].1.2 xs[i].2.2
 turn:a0v [g] w3 wr
theorem b6J.row {w3 wr:World}{g lo:Nat}{gs:List (Co×Co)}{xs:List GPr}{s:Nat->Nat}(h:b6J w3 g gs gs.length xs s wr)(hlo:lo<=g):a7y wr gs lo wr.heap.size (.slice (some ⟨g,0,none⟩) gs.length gs.length):=by
 have hg:=h.box.lt
 refine⟨by omega,.inr ⟨g,s,fun i=>(xs.getD i ((⟨0,0,0,[]⟩,.slice none 0 0),(⟨0,0,0,[]⟩,.slice none 0 0))).1.2,fun i=>(xs.getD i ((⟨0,0,0,[]⟩,.slice none 0 0),(⟨0,0,0,[]⟩,.slice none 0 0))).2.2,rfl,hlo,h.s0,h.top,hg,⟨fun j hj=>h.box.free j (by rw[a4s,h.len];exact hj),h.own⟩,fun i hi=>?_⟩⟩
 have hx:i<xs.length:=by rw[h.len];exact hi
 obtain⟨e1,e2,e3⟩:=h.it i hi hx hi
 have eu:(xs.getD i ((⟨0,0,0,[]⟩,.slice none 0 0),(⟨0,0,0,[]⟩,.slice none 0 0)))=xs[i]:=by simp[List.getD,hx]
 simp only[eu]
 have hc:=fun j u hu=>h.box.cell (i*8+j) u (a5O xs i hx j u hu)
 refine⟨?_,?_,h.mono i hi,e3⟩
 ·rw[<-e1];exact⟨hc 0 _ rfl,hc 1 _ rfl,hc 2 _ rfl,hc 3 _ rfl⟩
 ·rw[<-e2];exact⟨hc 4 _ rfl,hc 5 _ rfl,hc 6 _ rfl,hc 7 _ rfl⟩
theorem b6J.more {w3 wr w':World}{g k:Nat}{gs:List (Co×Co)}{xs:List GPr}{s:Nat->Nat}{u1 u2:Value}(h:b6J w3 g gs k xs s wr)(hk:k<gs.length)(b:Below wr.heap.size wr w'){lo:Nat}(hlo:wr.heap.size<=lo)(hn:a9I w' gs[k] lo w'.heap.size u1 u2):
 b6J w3 g gs (k+1) (xs.set k ((gs[k].1,u1),(gs[k].2,u2))) (fun i=>if i<=k then s i else w'.heap.size) ((((((((w'.setCell ⟨g,k*8,none⟩ (.int .i64 gs[k].1.op)).setCell ⟨g,k*8+1,none⟩ (.int .i64 gs[k].1.n)).setCell ⟨g,k*8+2,none⟩ (.int .i64 gs[k].1.m)).setCell ⟨g,k*8+3,none⟩ (u1)).setCell ⟨g,k*8+4,none⟩ (.int .i64 gs[k].2.op)).setCell ⟨g,k*8+5,none⟩ (.int .i64 gs[k].2.n)).setCell ⟨g,k*8+6,none⟩ (.int .i64 gs[k].2.m)).setCell ⟨g,k*8+7,none⟩ (u2)):=by
 have hx:k<xs.length:=by rw[h.len];exact hk
 have hm:=a8W h.mono
 have hgs:g<s k:=Nat.lt_of_lt_of_le h.s0 (hm 0 k (Nat.zero_le _) (Nat.le_refl _))
 have htop:=h.top
 have hsz:=b.size
 have B:=h.box.next b
 have hlen:(flG xs).length=xs.length*8:=a4s xs
 have T:a0v [g] w' ((((((((w'.setCell ⟨g,k*8,none⟩ (.int .i64 gs[k].1.op)).setCell ⟨g,k*8+1,none⟩ (.int .i64 gs[k].1.n)).setCell ⟨g,k*8+2,none⟩ (.int .i64 gs[k].1.m)).setCell ⟨g,k*8+3,none⟩ (u1)).setCell ⟨g,k*8+4,none⟩ (.int .i64 gs[k].2.op)).setCell ⟨g,k*8+5,none⟩ (.int .i64 gs[k].2.n)).setCell ⟨g,k*8+6,none⟩ (.int .i64 gs[k].2.m)).setCell ⟨g,k*8+7,none⟩ (u2)):=a0i (a0i (a0i (a0i (a0i (a0i (a0i (a0v.set w' _ _ (by simp)) (a0v.set _ _ _ (by simp))) (a0v.set _ _ _ (by simp))) (a0v.set _ _ _ (by simp))) (a0v.set _ _ _ (by simp))) (a0v.set _ _ _ (by simp))) (a0v.set _ _ _ (by simp))) (a0v.set _ _ _ (by simp))
 have T0:a0v [g] wr w':=⟨b.os,b.tape,b.output,b.size,fun q hq _=>b.block q hq⟩
 have hW:=T.size
 have hB:Box ((((((((w'.setCell ⟨g,k*8,none⟩ (.int .i64 gs[k].1.op)).setCell ⟨g,k*8+1,none⟩ (.int .i64 gs[k].1.n)).setCell ⟨g,k*8+2,none⟩ (.int .i64 gs[k].1.m)).setCell ⟨g,k*8+3,none⟩ (u1)).setCell ⟨g,k*8+4,none⟩ (.int .i64 gs[k].2.op)).setCell ⟨g,k*8+5,none⟩ (.int .i64 gs[k].2.n)).setCell ⟨g,k*8+6,none⟩ (.int .i64 gs[k].2.m)).setCell ⟨g,k*8+7,none⟩ (u2)) g (flG (xs.set k ((gs[k].1,u1),(gs[k].2,u2)))):=by
  rw[b0Y xs k hx]
  exact((((((((B.set (k*8) (by omega) _).set (k*8+1) (by simp;omega) _).set (k*8+2) (by simp;omega) _).set (k*8+3) (by simp;omega) _).set (k*8+4) (by simp;omega) _).set (k*8+5) (by simp;omega) _).set (k*8+6) (by simp;omega) _).set (k*8+7) (by simp;omega) _)
 have hOw:∃ cs,(((((((((w'.setCell ⟨g,k*8,none⟩ (.int .i64 gs[k].1.op)).setCell ⟨g,k*8+1,none⟩ (.int .i64 gs[k].1.n)).setCell ⟨g,k*8+2,none⟩ (.int .i64 gs[k].1.m)).setCell ⟨g,k*8+3,none⟩ (u1)).setCell ⟨g,k*8+4,none⟩ (.int .i64 gs[k].2.op)).setCell ⟨g,k*8+5,none⟩ (.int .i64 gs[k].2.n)).setCell ⟨g,k*8+6,none⟩ (.int .i64 gs[k].2.m)).setCell ⟨g,k*8+7,none⟩ (u2))).ownsRow g 58 8 (.slice (some ⟨g,0,none⟩) gs.length gs.length) gs.length cs:=by
  obtain⟨cs,o⟩:=h.own
  have o0:=b4L o (b.block g h.box.lt)
  exact⟨_,((((((((o0.stored _ _).1.stored _ _).1.stored _ _).1.stored _ _).1.stored _ _).1.stored _ _).1.stored _ _).1.stored _ _).1⟩
 generalize ((((((((w'.setCell ⟨g,k*8,none⟩ (.int .i64 gs[k].1.op)).setCell ⟨g,k*8+1,none⟩ (.int .i64 gs[k].1.n)).setCell ⟨g,k*8+2,none⟩ (.int .i64 gs[k].1.m)).setCell ⟨g,k*8+3,none⟩ (u1)).setCell ⟨g,k*8+4,none⟩ (.int .i64 gs[k].2.op)).setCell ⟨g,k*8+5,none⟩ (.int .i64 gs[k].2.n)).setCell ⟨g,k*8+6,none⟩ (.int .i64 gs[k].2.m)).setCell ⟨g,k*8+7,none⟩ (u2))=W at *
 have key:∀ (q:Co×Co) lo' hi' v u,g<lo'->hi'<=w'.heap.size->a9I w' q lo' hi' v u->a9I W q lo' hi' v u:=
  fun q lo' hi' v u h1 h2 h3=>a9I.keep T.size (fun b' hb1 hb2=>T.block b' (by omega) (by simp;omega)) h3
 refine⟨by rw[List.length_set,h.len],hB,by simpa using h.s0,fun i hi=>?_,?_,hOw,fun i hi hi2 hik=>?_,a0i h.turn (a0i T0 T)⟩
 ·by_cases e:i=k
  ·subst e
   simp only[Nat.le_refl,if_true,show ¬ i+1<=i by omega,if_false]
   omega
  ·have:=h.mono i (by omega)
   simp only[show i<=k by omega,show i+1<=k by omega,if_true]
   exact this
 ·simp only[show ¬ k+1<=k by omega,if_false]
  exact hW
 ·by_cases e:i=k
  ·subst e
   simp only[List.getElem_set_self,Nat.le_refl,if_true,show ¬ i+1<=i by omega,if_false]
   exact⟨trivial,trivial,key _ _ _ _ _ (by omega) (Nat.le_refl _) (hn.wide (by omega))⟩
  ·have hi3:i<xs.length:=by simpa using hi2
   obtain⟨q1,q2,q3⟩:=h.it i hi hi3 (by omega)
   rw[List.getElem_set_ne (fun e2=>e e2.symm)]
   simp only[show i<=k by omega,show i+1<=k by omega,if_true]
   have h1:=hm 0 i (Nat.zero_le _) (by omega)
   have h2:=hm (i+1) k (by omega) (Nat.le_refl _)
   have h0:=h.s0
   exact⟨q1,q2,key _ _ _ _ _ (by omega) (by omega) (a9I.keep b.size (fun b' hb1 hb2=>b.block b' (by omega)) q3)⟩
end Go.Proofs.YtdgjjnpdbdmdkaaGreatDoor
end
section
namespace Go.Proofs.YtdgjjnpdbdmdkaaGreatDoor
open Go.RowKit
abbrev gz0:Value:=.agg #[.int .i64 0,.int .i64 0,.int .i64 0,.slice none 0 0,.int .i64 0,.int .i64 0,.int .i64 0,.slice none 0 0]
theorem a9r:(Tryz.prog.info? 58).map (fun i=>(i.zero,i.size,i.bytes))=some (some gz0,8,96):=by kernel_rfl
theorem a7V:∃ i,Tryz.prog.info? 58=some i/\i.zero=some gz0/\i.size=8/\i.bytes=96:=by
 have h:=a9r
 cases hi:Tryz.prog.info? 58 with
 | none=>rw[hi] at h;cases h
 | some i=>
   rw[hi] at h
   simp only[Option.map_some,Option.some.injEq,Prod.mk.injEq] at h
   exact⟨i,rfl,h.1,h.2.1,h.2.2⟩
theorem a5q.shape' {w:World}{v:Value}{l:List (Co×Co)}(h:a5q w v l):∃ ad cap,v=.slice ad l.length cap/\l.length<=cap/\cap<=9223372036854775807:=by
 obtain⟨ad,cap,hv,h1,h2,-⟩:=h
 exact⟨ad,cap,hv,h1,h2⟩
theorem a7U (n:Nat):(madeCells gz0.cells (n*8)).toList=flG (List.replicate n (((⟨0,0,0,[]⟩:Co),Value.slice none 0 0),((⟨0,0,0,[]⟩:Co),Value.slice none 0 0))):=by
 apply List.ext_getElem?
 intro i
 by_cases hi:i<n*8
 ·have h1:i/8<(List.replicate n (((⟨0,0,0,[]⟩:Co),Value.slice none 0 0),((⟨0,0,0,[]⟩:Co),Value.slice none 0 0))).length:=by simp;omega
  have hm:i%8=0\/i%8=1\/i%8=2\/i%8=3\/i%8=4\/i%8=5\/i%8=6\/i%8=7:=by omega
  have hd:i/8*8+i%8=i:=by omega
  have hL:(madeCells gz0.cells (n*8)).toList[i]? = some (gz0.cells[i%8]!):=by
   have:gz0.cells.size=8:=rfl
   simp[madeCells,hi,this]
  rw[hL]
  have hR:=a5O (List.replicate n (((⟨0,0,0,[]⟩:Co),Value.slice none 0 0),((⟨0,0,0,[]⟩:Co),Value.slice none 0 0))) (i/8) h1 (i%8)
  rw[hd] at hR
  symm
  apply hR
  rw[List.getElem_replicate]
  rcases hm with h | h | h | h | h | h | h | h<;>rw[h]<;>rfl
 ·rw[List.getElem?_eq_none (by simp[size_madeCells];omega),List.getElem?_eq_none (by rw[a4s];simp;omega)]
set_option maxHeartbeats 4000000 in
set_option maxRecDepth 20000 in
theorem b6e (ps:List (Co×Co))(hl:ps.length*96<=140737488355328)(ih:∀ x,x∈ps->CWt x.1/\CWt x.2)(v:Value)(w:World)(hs:a5q w v ps):
 Calls Tryz.prog 41 #[v,.func (.func 42) #[] #[]] w fun e w'=>∃ u,e=.returned u/\a5q w' u ps/\a7y w' ps w.heap.size w'.heap.size u/\Below w.heap.size w w':=by
 obtain⟨ad,cap,rfl,hle,hcap⟩:=hs.shape'
 have HL:=a0a hs
 obtain⟨N,hN⟩:∃ N,Hid (N=ps.length):=⟨_,rfl⟩
 rw[<-hN.out] at hl hle ⊢
 rw[<-hN.out] at HL
 obtain⟨i0,hi,hz0,hz1,hz2⟩:=a7V
 have hnil:=fun W:World=>run_eql_slice_nil (P:=Tryz.prog) W 27 58 ad N cap Tryz.underlying27
 cases ad with
 | none=>
   have hn0:ps.length=0:=by
    rcases Nat.eq_zero_or_pos ps.length with h | h
    ·exact h
    ·obtain⟨b,off,cap',e,-⟩:=HL.out.open h
     simp at e
   go_enter Tryz.func41,Tryz.ntmps41
   go_wp2_with fail
   go_ret
   exact⟨.slice none 0 0,rfl,⟨none,0,by rw[hn0],by omega,by omega,.inl hn0⟩,⟨Nat.le_refl _,.inl ⟨hn0,rfl⟩⟩,Below.refl _ _⟩
 | some a=>
   go_enter Tryz.func41,Tryz.ntmps41
   go_wp2_with (at_make;refine wpList_make_full _ rfl _ _ 27 rfl w.heap.size 58 i0 gz0 8 Tryz.underlying27 hi hz0 hz1 _ _ _ _ N rfl rfl rfl rfl (by rw[hz2];omega) (by unfold maxLen;omega) (Nat.le_refl _) ?_;intro w3 hown hgrow;have hb3:Below w.heap.size w w3:=(Below.refl _ _).grown hgrow (Nat.le_refl _) (by simp);have HB3:=a0a hb3;have HO:=a0a hown;clear hb3 hown hgrow)
   have hI0:Hid (b6J w3 w.heap.size ps 0 (List.replicate N (((⟨0,0,0,[]⟩:Co),Value.slice none 0 0),((⟨0,0,0,[]⟩:Co),Value.slice none 0 0))) (fun _=>w.heap.size+1) w3):=by
    have hb:Box w3 w.heap.size (flG (List.replicate N (((⟨0,0,0,[]⟩:Co),Value.slice none 0 0),((⟨0,0,0,[]⟩:Co),Value.slice none 0 0)))):=by
     rcases a4S HO.out with ⟨h,_⟩ | ⟨g,c,h,_,hb⟩
     ·cases h
     ·simp only[Value.slice.injEq,Option.some.injEq,Addr.mk.injEq,and_true] at h
      obtain⟨⟨rfl,_⟩,_⟩:=h
      rw[a7U] at hb
      exact hb
    exact a0a ⟨by rw[List.length_replicate];exact hN.out,hb,by omega,(fun i hi=>by omega),hb.lt,⟨_,by rw[<-hN.out];exact HO.out⟩,(fun i _ _ hi=>by omega),a0v.refl _ _⟩
   have HIh:=a0a ih
   obtain⟨g,hg⟩:∃ g,Hid (g=w.heap.size):=⟨_,rfl⟩
   rw[<-hg.out] at hI0 ⊢
   clear HO hi hz0 hz1 hz2 ih hnil hs
   go_loopw [15] (fun i wr=>∃ (k:Nat) (xs:List GPr) (s:Nat->Nat),i=.int .i64 (k:Nat)/\k<=N/\Hid (b6J w3 g ps k xs s wr)) (fun i _=>match i with | .int _ p=>((N:Int)-p).toNat | _=>0)
   case atStart=>exact⟨0,_,_,rfl,by omega,hI0⟩
   case round=>
    obtain⟨k,xs,s,rfl,hk,HI⟩:=hrel
    have HBr:Hid (Below w.heap.size w wr):=by
     have b:=HB3.out
     have t:=HI.out.turn
     exact a0a ⟨t.os.trans b.os,t.tape.trans b.tape,t.output.trans b.output,Nat.le_trans b.size t.size,fun q hq=>(t.block q (Nat.lt_of_lt_of_le hq b.size) (by have:=hg.out;simp;omega)).trans (b.block q hq)⟩
    by_cases hlt:k<N
    ·have hlt':(k:Int)<(N:Int):=by omega
     have hl1:k<ps.length:=by rw[<-hN.out];exact hlt
     obtain⟨b,off,cap',hv,-,-,hbl,hx⟩:=HL.out.open (by omega)
     simp only[Value.slice.injEq,Option.some.injEq] at hv
     obtain⟨rfl,-,rfl⟩:=hv
     obtain⟨ux,uy,h6,h7,hu,hv2⟩:=hx k hl1
     have y0:=a0d HBr.out h6.c0
     have y1:=a0d HBr.out h6.c1
     have y2:=a0d HBr.out h6.c2
     have y3:=a0d HBr.out h6.c3
     have y4:=a0d HBr.out h7.c0
     have y5:wr.cell? ⟨b,off+k*8+5,none⟩=_:=a0d HBr.out h7.c1
     have y6:wr.cell? ⟨b,off+k*8+6,none⟩=_:=a0d HBr.out h7.c2
     have y7:wr.cell? ⟨b,off+k*8+7,none⟩=_:=a0d HBr.out h7.c3
     have lbr:b<wr.heap.size:=World.block_lt_of_cell? wr _ y0
     have HNx:=a0a (HIh.out _ (List.getElem_mem hl1))
     have HU:=a0a hu
     have HV:=a0a hv2
     have HMo:=a0a (fun w' u1 u2 hb lo hlo hn=>HI.out.more (w':=w') (u1:=u1) (u2:=u2) hl1 hb (lo:=lo) hlo hn)
     have hgl:=HI.out.box.lt
     have hxk:k<xs.length:=by rw[HI.out.len];exact hl1
     have HFr:Hid (∀ j,j<8->k*8+j<(flG xs).length):=fun j hj=>by rw[a4s];omega
     have HCe:Hid (∀ j u,(coL xs[k].1.1 xs[k].1.2++coL xs[k].2.1 xs[k].2.2)[j]? = some u->(flG xs)[k*8+j]? = some u):=fun j u h=>a5O xs k hxk j u h
     generalize xs[k]=xk at *
     obtain⟨a5,c5,rfl,-,-⟩:=hu.parts.shape
     obtain⟨a6,c6,rfl,-,-⟩:=hv2.parts.shape
     clear h6 h7 hu hv2 hx
     generalize ps[k]=t at *
     obtain⟨tx,ty⟩:=t
     dsimp only at *
     have ba:=(Below.refl wr.heap.size wr).alloc (Nat.le_refl _) (.cells #[.int .i64 tx.op,.int .i64 tx.n,.int .i64 tx.m,.slice a5 tx.parts.length c5,.int .i64 ty.op,.int .i64 ty.n,.int .i64 ty.m,.slice a6 ty.parts.length c6] 58)
     have BA:=a0a ba
     clear ba
     go_wp2_with fail
     refine Calls.mono (a8m tx ty HNx.out.1 HNx.out.2 _ _ _ (HU.out.next (a0b HBr.out BA.out HBr.out.size)) (HV.out.next (a0b HBr.out BA.out HBr.out.size))) ?_
     rintro e w4 ⟨u1,u2,m,rfl,su,sv,nu,nv,b4⟩
     have B4:=kb BA b4
     have hlm:m<=w4.heap.size:=(a2s.1 nv).1
     have hml:=(a2s.1 nu).1
     have M:=a0a (HMo.out w4 _ _ B4.out _ BA.out.size ⟨m,hml,hlm,nu,nv⟩)
     obtain⟨a4,c4,rfl,-,-⟩:=su.parts.shape
     obtain⟨a7,c7,rfl,-,-⟩:=sv.parts.shape
     have X:=HI.out.box.next B4.out
     have z0:=X.cell (k*8) _ (HCe.out 0 _ rfl)
     have f0:=X.free (k*8) (HFr.out 0 (by decide))
     have z1:=X.cell (k*8+1) _ (HCe.out 1 _ rfl)
     have f1:=X.free (k*8+1) (HFr.out 1 (by decide))
     have z2:=X.cell (k*8+2) _ (HCe.out 2 _ rfl)
     have f2:=X.free (k*8+2) (HFr.out 2 (by decide))
     have z3:=X.cell (k*8+3) _ (HCe.out 3 _ rfl)
     have f3:=X.free (k*8+3) (HFr.out 3 (by decide))
     have z4:=X.cell (k*8+4) _ (HCe.out 4 _ rfl)
     have f4:=X.free (k*8+4) (HFr.out 4 (by decide))
     have z5:=X.cell (k*8+5) _ (HCe.out 5 _ rfl)
     have f5:=X.free (k*8+5) (HFr.out 5 (by decide))
     have z6:=X.cell (k*8+6) _ (HCe.out 6 _ rfl)
     have f6:=X.free (k*8+6) (HFr.out 6 (by decide))
     have z7:=X.cell (k*8+7) _ (HCe.out 7 _ rfl)
     have f7:=X.free (k*8+7) (HFr.out 7 (by decide))
     have xl:=X.lt
     clear X su sv nu nv b4 BA HMo HCe HFr HU HV HNx hlm hml y0 y1 y2 y3 y4 y5 y6 y7
     go_wp2_with fail
     go_roundw
     ·exact⟨k+1,_,_,by simp,by omega,M⟩
     ·simp;omega
    ·have hkN:k=N:=by omega
     subst hkN
     have hR:Hid (a7y wr ps w.heap.size wr.heap.size (.slice (some ⟨g,0,none⟩) k k)):=by
      have h:=HI.out
      rw[hN.out] at h ⊢
      exact a0a (h.row (by rw[hg.out];exact Nat.le_refl _))
     go_wp2_with fail
     go_ret
     exact⟨_,rfl,a4p HL.out hR.out,hR.out,HBr.out⟩end Go.Proofs.YtdgjjnpdbdmdkaaGreatDoor
end

import Derived.Test.YtbddbnjhmdbkbaaGreatDoorMaC
import Derived.Deep.DeepAppendWide
namespace Go.Proofs.YtbddbnjhmdbkbaaGreatDoor
open Go.RowKit
def c1Z (w:World)(cb:Nat)(c:Int):Prop:=∃ T bg,Box w cb [.int .i64 T,.bool bg]/\((bg=true/\T=c)\/(bg=false/\c=a8B))
theorem a2G {M:Int}{e:EvP}:a1K M e=true↔(e.kind=1/\0<=e.id/\e.id<M)\/e.kind=2:=by
 unfold a1K
 by_cases h:e.kind=1
 ·rw[if_pos h];simp[h]
 ·rw[if_neg h];simp[h]
set_option maxHeartbeats 4000000 in
set_option maxRecDepth 20000 in
theorem b5W (M c:Int)(e:EvP)(he:b0j e)(cb:Nat)(w:World)(h:c1Z w cb c):
 Calls Tryz.prog 58 #[.pointer (some ⟨cb,0,none⟩),b8e e,.int .i64 M] w fun r w'=>r=.returned (.bool (a3y M c e))/\c1Z w' cb (if a3y M c e=true then e.time else c)/\a0h [cb] w w':=by
 obtain⟨T,bg,hb,hc⟩:=h
 obtain⟨R,hR⟩:∃ R,Hid (R=a3y M c e):=⟨_,rfl⟩
 rw[<-hR.out]
 obtain⟨C,hC⟩:∃ C,Hid (C=if R=true then e.time else c):=⟨_,rfl⟩
 rw[<-hC.out]
 have X0:=Box.new w (a3O e) 69
 have HX:=a0a X0
 have ba:=(ZD w.heap.size w).alloc (ZB _) (.cells (a3O e).toArray 69)
 have HB:=a0a (hb.next ba)
 have HT:Hid (a0h [cb] w (w.alloc (.cells (a3O e).toArray 69))):=a0h.of_below ba
 obtain⟨x0,x1⟩:=Box.c2 X0
 have x3:=X0.cell 3 _ rfl
 have xl:=X0.lt
 obtain⟨b0,b1⟩:=Box.c2 HB.out
 have f0:=HB.out.free 0 (by simp)
 have f1:=HB.out.free 1 (by simp)
 have bl:=HB.out.lt
 have hne:¬ cb=w.heap.size:=by have:=hb.lt;omega
 have hne':¬ w.heap.size=cb:=fun h=>hne h.symm
 have t12:=he.time
 unfold C64 at t12
 obtain⟨ek,ei,ev,et⟩:=e
 dsimp only at *
 have HC:=a0a hc
 by_cases hk1:ek=1
 ·subst hk1
  by_cases hi0:0<=ei
  ·have hi0':¬ ei<0:=by omega
   by_cases hi1:ei<M
   ·have hi1':¬ M<=ei:=by omega
    have hkn:Hid (a1K M ⟨1,ei,ev,et⟩=true):=a0a (a2G.2 (.inl ⟨rfl,hi0,hi1⟩))
    cases bg with
    | false=>
      have hcm:c=a8B:=by rcases HC.out with ⟨h,-⟩ | ⟨-,h⟩;cases h;exact h
      have hr:Hid (R=true):=a0a (by rw[hR.out];unfold a3y;rw[hkn.out,hcm];simp only[Bool.true_and,Bool.not_eq_true',decide_eq_false_iff_not];unfold a8B;omega)
      have hC2:Hid (C=et):=a0a (by rw[hC.out,hr.out];simp)
      go_enter Tryz.func58,Tryz.ntmps58
      go_wp2_with fail
      go_quiet (fail)
      go_wp2_with fail
      go_ret
      exact⟨by rw[hr.out];rfl,by rw[hC2.out];exact⟨et,true,((HB.out.next (a0j (ZD _ _) _)).set 0 (by simp) _).set 1 (by simp) _,.inl ⟨rfl,rfl⟩⟩,a0X (a0X (a1L HT.out (a0j (ZD _ _) _)) (a0h.set _ ⟨cb,0,none⟩ _ (by simp))) (a0h.set _ ⟨cb,1,none⟩ _ (by simp))⟩
    | true=>
      have hcT:T=c:=by rcases HC.out with ⟨-,h⟩ | ⟨h,-⟩;exact h;cases h
      subst hcT
      by_cases hlt:et<T
      ·have hr:Hid (R=false):=a0a (by rw[hR.out];unfold a3y;rw[hkn.out,decide_eq_true hlt];rfl)
       have hC2:Hid (C=T):=a0a (by rw[hC.out,hr.out];simp)
       go_enter Tryz.func58,Tryz.ntmps58
       go_wp2_with fail
       go_quiet (fail)
       go_wp2_with fail
       go_ret
       exact⟨by rw[hr.out];rfl,by rw[hC2.out];exact⟨T,true,HB.out.next (a0j (ZD _ _) _),.inl ⟨rfl,rfl⟩⟩,a1L HT.out (a0j (ZD _ _) _)⟩
      ·have hr:Hid (R=true):=a0a (by rw[hR.out];unfold a3y;rw[hkn.out,decide_eq_false hlt];rfl)
       have hC2:Hid (C=et):=a0a (by rw[hC.out,hr.out];simp)
       go_enter Tryz.func58,Tryz.ntmps58
       go_wp2_with fail
       go_quiet (fail)
       go_wp2_with fail
       go_ret
       exact⟨by rw[hr.out];rfl,by rw[hC2.out];exact⟨et,true,((HB.out.next (a0j (ZD _ _) _)).set 0 (by simp) _).set 1 (by simp) _,.inl ⟨rfl,rfl⟩⟩,a0X (a0X (a1L HT.out (a0j (ZD _ _) _)) (a0h.set _ ⟨cb,0,none⟩ _ (by simp))) (a0h.set _ ⟨cb,1,none⟩ _ (by simp))⟩
   ·have hi1':M<=ei:=by omega
    have hr:Hid (R=false):=a0a (by rw[hR.out];unfold a3y;rw[show a1K M _=false from by have:=mt (a2G (M:=M) (e:=⟨1,ei,ev,et⟩)).1;simpa using this (by simp;omega)];rfl)
    have hC2:Hid (C=c):=a0a (by rw[hC.out,hr.out];simp)
    go_enter Tryz.func58,Tryz.ntmps58
    go_wp2_with fail
    go_ret
    exact⟨by rw[hr.out];rfl,by rw[hC2.out];exact⟨T,bg,HB.out,HC.out⟩,HT.out⟩
  ·have hi0':ei<0:=by omega
   have hr:Hid (R=false):=a0a (by rw[hR.out];unfold a3y;rw[show a1K M _=false from by have:=mt (a2G (M:=M) (e:=⟨1,ei,ev,et⟩)).1;simpa using this (by simp;omega)];rfl)
   have hC2:Hid (C=c):=a0a (by rw[hC.out,hr.out];simp)
   go_enter Tryz.func58,Tryz.ntmps58
   go_wp2_with fail
   go_ret
   exact⟨by rw[hr.out];rfl,by rw[hC2.out];exact⟨T,bg,HB.out,HC.out⟩,HT.out⟩
 ·have k1:(ek==1)=false:=by simpa using hk1
  have k1':(ek != 1)=true:=by simpa using hk1
  by_cases hk2:ek=2
  ·subst hk2
   have hkn:Hid (a1K M ⟨2,ei,ev,et⟩=true):=a0a (a2G.2 (.inr rfl))
   cases bg with
   | false=>
     have hcm:c=a8B:=by rcases HC.out with ⟨h,-⟩ | ⟨-,h⟩;cases h;exact h
     have hr:Hid (R=true):=a0a (by rw[hR.out];unfold a3y;rw[hkn.out,hcm];simp only[Bool.true_and,Bool.not_eq_true',decide_eq_false_iff_not];unfold a8B;omega)
     have hC2:Hid (C=et):=a0a (by rw[hC.out,hr.out];simp)
     go_enter Tryz.func58,Tryz.ntmps58
     go_wp2_with fail
     go_quiet (fail)
     go_wp2_with fail
     go_ret
     exact⟨by rw[hr.out];rfl,by rw[hC2.out];exact⟨et,true,((HB.out.next (a0j (ZD _ _) _)).set 0 (by simp) _).set 1 (by simp) _,.inl ⟨rfl,rfl⟩⟩,a0X (a0X (a1L HT.out (a0j (ZD _ _) _)) (a0h.set _ ⟨cb,0,none⟩ _ (by simp))) (a0h.set _ ⟨cb,1,none⟩ _ (by simp))⟩
   | true=>
     have hcT:T=c:=by rcases HC.out with ⟨-,h⟩ | ⟨h,-⟩;exact h;cases h
     subst hcT
     by_cases hlt:et<T
     ·have hr:Hid (R=false):=a0a (by rw[hR.out];unfold a3y;rw[hkn.out,decide_eq_true hlt];rfl)
      have hC2:Hid (C=T):=a0a (by rw[hC.out,hr.out];simp)
      go_enter Tryz.func58,Tryz.ntmps58
      go_wp2_with fail
      go_quiet (fail)
      go_wp2_with fail
      go_ret
      exact⟨by rw[hr.out];rfl,by rw[hC2.out];exact⟨T,true,HB.out.next (a0j (ZD _ _) _),.inl ⟨rfl,rfl⟩⟩,a1L HT.out (a0j (ZD _ _) _)⟩
     ·have hr:Hid (R=true):=a0a (by rw[hR.out];unfold a3y;rw[hkn.out,decide_eq_false hlt];rfl)
      have hC2:Hid (C=et):=a0a (by rw[hC.out,hr.out];simp)
      go_enter Tryz.func58,Tryz.ntmps58
      go_wp2_with fail
      go_quiet (fail)
      go_wp2_with fail
      go_ret
      exact⟨by rw[hr.out];rfl,by rw[hC2.out];exact⟨et,true,((HB.out.next (a0j (ZD _ _) _)).set 0 (by simp) _).set 1 (by simp) _,.inl ⟨rfl,rfl⟩⟩,a0X (a0X (a1L HT.out (a0j (ZD _ _) _)) (a0h.set _ ⟨cb,0,none⟩ _ (by simp))) (a0h.set _ ⟨cb,1,none⟩ _ (by simp))⟩
  ·have k2':(ek != 2)=true:=by simpa using hk2
   have hr:Hid (R=false):=a0a (by rw[hR.out];unfold a3y;rw[show a1K M _=false from by have:=mt (a2G (M:=M) (e:=⟨ek,ei,ev,et⟩)).1;simpa using this (by simp;omega)];rfl)
   have hC2:Hid (C=c):=a0a (by rw[hC.out,hr.out];simp)
   go_enter Tryz.func58,Tryz.ntmps58
   go_wp2_with fail
   go_ret
   exact⟨by rw[hr.out];rfl,by rw[hC2.out];exact⟨T,bg,HB.out,HC.out⟩,HT.out⟩
set_option maxHeartbeats 4000000 in
set_option maxRecDepth 20000 in
theorem b5X (M:Int)(l:List EvP)(u:Value)(w:World)(hE:a4A w u l)(hok:∀ e,e∈l->b0j e)(hL:l.length*32<=140737488355328):
 Calls Tryz.prog 30 #[.int .i64 M,u] w fun r w'=>∃ x,r=.returned x/\w'.ownsRow w.heap.size 69 4 x (a1y M l).length (flE (a1y M l))/\Below w.heap.size w w':=by
 obtain⟨ad,cap,rfl,hle,hcap,hp⟩:=hE
 obtain⟨N,hNn⟩:∃ N,Hid (N=l.length):=⟨_,rfl⟩
 rw[<-hNn.out] at hL hle hp ⊢
 have HP:=a0a hp
 have HOk:=a0a hok
 obtain⟨i0,hi,hz0,hz1,hz2⟩:=b6H
 have X0:=a0a (Box.new w [.int .i64 0,.bool false] 117)
 have B0:=a0a ((ZD w.heap.size w).alloc (ZB _) (.cells #[.int .i64 0,.bool false] 117))
 have hs0:(w.alloc (.cells #[.int .i64 0,.bool false] 117)).heap.size=w.heap.size+1:=by simp
 clear hp hok
 go_enter Tryz.func30,Tryz.ntmps30
 go_wp2_with fail
 generalize hw0:w.alloc _=w0 at *
 clear hw0
 have HR0:Hid (c1Z w0 w.heap.size a8B):=⟨0,false,X0.out,.inr ⟨rfl,rfl⟩⟩
 go_loopw [5,7] (fun o i wr=>∃ (k:Nat),i=.int .i64 (k:Nat)/\k<=N/\Hid (wr.ownsRow (w.heap.size+1) 69 4 o (a4m M l k).length (flE (a4m M l k)))/\Hid (c1Z wr w.heap.size (a5H M l k))/\Hid (a0h [w.heap.size] w0 wr)) (fun _ i _=>match i with | .int _ z=>((N:Int)-z).toNat | _=>0)
 case atStart=>exact⟨0,rfl,by omega,World.ownsRow_nil _ _ _ _,HR0,a0h.refl _ _⟩
 case round=>
  obtain⟨k,rfl,hk,HO,HC,HT⟩:=hrel
  have HBr:Hid (Below w.heap.size w wr):=by
   have b:=B0.out
   have t:=HT.out
   exact a0a ⟨t.os.trans b.os,t.tape.trans b.tape,t.output.trans b.output,ZC b.size t.size,fun q hq=>(t.block q (ZA hq b.size) (by simp;omega)).trans (b.block q hq)⟩
  obtain⟨oa,oc,rfl⟩:=a1i HO.out
  by_cases hlt:k<N
  ·have hlt':(k:Int)<(N:Int):=by omega
   have hl1:k<l.length:=by rw[<-hNn.out];exact hlt
   obtain⟨b,off,e,hbl,hx⟩:∃ b off,ad=some ⟨b,off,none⟩/\b<w.heap.size/\∀ i,i<N->∀ j x,(a3O (l.getD i ev0))[j]? = some x->w.cell? ⟨b,off+i*4+j,none⟩=some x:=by
    rcases HP.out with h | h
    ·omega
    ·exact h
   subst e
   have hgd:l.getD k ev0=l[k]:=by simp[List.getD,hl1]
   have c0:=hx k hlt 0 _ rfl
   have c1:=hx k hlt 1 _ rfl
   have c2:=hx k hlt 2 _ rfl
   have c3:=hx k hlt 3 _ rfl
   rw[hgd] at c0 c1 c2 c3
   rw[Nat.add_zero] at c0
   have y0:=a0c HBr.out c0
   have y1:=a0c HBr.out c1
   have y2:=a0c HBr.out c2
   have y3:=a0c HBr.out c3
   have lb:b<wr.heap.size:=ZA hbl HBr.out.size
   have HTk:=a0a (fun W h=>b5W M (a5H M l k) l[k] (HOk.out _ (List.getElem_mem hl1)) w.heap.size W h)
   have HTs:=a0a (a8d M l k hl1)
   have HCs:=a0a (a8N M l k hl1)
   have HKl:=a0a (b0p M l k)
   generalize l[k]=e at *
   clear hx hgd
   go_wp2_with fail
   refine ZE (HTk.out _ HC.out) ?_
   rintro r w2 ⟨rfl,hc2,t2⟩
   obtain⟨tk,htk⟩:∃ tk,Hid (a3y M (a5H M l k) e=tk):=⟨_,rfl⟩
   rw[htk.out] at HTs HCs hc2 ⊢
   have HC2:=a0a hc2
   have HT2:=a0a (a0X HT.out t2)
   have hzt:=HT.out.size
   have HO2:Hid (w2.ownsRow (w.heap.size+1) 69 4 (.slice oa (a4m M l k).length oc) (a4m M l k).length (flE (a4m M l k))):=a2a HO.out (a6u t2) (fun r e2 h=>by cases e2;have:=(a0t HO.out h).1;omega)
   have B2:Hid (Below w.heap.size w w2):=by
    have b:=HBr.out
    exact a0a ⟨t2.os.trans b.os,t2.tape.trans b.tape,t2.output.trans b.output,ZC b.size t2.size,fun q hq=>(t2.block q (ZA hq b.size) (by simp;omega)).trans (b.block q hq)⟩
   clear hc2 t2 y0 y1 y2 y3 lb HO HC
   cases tk with
   | false=>
     have q1:Hid (a4m M l (k+1)=a4m M l k):=a0a (by rw[HTs.out];simp)
     have q2:Hid (a5H M l (k+1)=a5H M l k):=a0a (by rw[HCs.out];simp)
     go_wp2_with fail
     go_roundw
     case rel=>exact⟨k+1,by go_num,by omega,by rw[q1.out];exact HO2,by rw[q2.out];exact a0a (by simpa using HC2.out),HT2⟩
     case measure=>simp;omega
   | true=>
     have q1:Hid (a4m M l (k+1)=a4m M l k++[e]):=a0a (by rw[HTs.out];simp)
     have q2:Hid (a5H M l (k+1)=e.time):=a0a (by rw[HCs.out];simp)
     have z0:=a0c B2.out c0
     have z1:=a0c B2.out c1
     have z2:=a0c B2.out c2
     have z3:=a0c B2.out c3
     have lb:b<w2.heap.size:=ZA hbl B2.out.size
     have hkl:=HKl.out
     have hz3:=HT2.out.size
     go_wp2_with (at_builtin;refine wpList_append_own_wide _ rfl _ _ 33 rfl (w.heap.size+1) 69 i0 (b8e ev0) 4 32 Tryz.underlying33 hi hz0 hz1 hz2 rfl (by decide) _ _ _ rfl (HO2.out.alloc _) ⟨_,0,none⟩ 1 1 (a3O e) rfl rfl (by exact a2R _ _ _ _ rfl) (by intro u hu;simp only[List.mem_cons,List.not_mem_nil,or_false] at hu;rcases hu with rfl | rfl | rfl | rfl<;>rfl) (by unfold maxLen;omega) (by omega) (by simp;omega) ?_)
     intro v3 w3 ho3 hg3 _
     have q3:Hid (w3.ownsRow (w.heap.size+1) 69 4 v3 (a4m M l (k+1)).length (flE (a4m M l (k+1)))):=by rw[q1.out,b6R,List.length_append];exact a0a ho3
     have hne:some w.heap.size≠(Value.slice oa (a4m M l k).length oc).ownBlock:=fun e2=>by have:=(a0t HO2.out e2.symm).1;omega
     have q4:Hid (c1Z w3 w.heap.size (a5H M l (k+1))):=by
      rw[q2.out]
      obtain⟨T,bg,hb,hc⟩:=HC2.out
      have hb2:=hb.next ((ZD w2.heap.size w2).alloc (ZB _) (.cells (a3O e).toArray 69))
      have he:=hg3.block w.heap.size hb2.lt hne
      exact a0a ⟨T,bg,⟨fun i v hv=>(World.cell?_of_block (a:=⟨w.heap.size,i,none⟩) he).trans (hb2.cell i v hv),fun i hi=>(World.frozen?_of_block (a:=⟨w.heap.size,i,none⟩) he).trans (hb2.free i hi),ZA hb2.lt hg3.size⟩,by simpa using hc⟩
     have q5:Hid (a0h [w.heap.size] w0 w3):=by
      have t:=HT2.out
      have al:=(ZD w2.heap.size w2).alloc (ZB _) (.cells (a3O e).toArray 69)
      exact a0a ⟨hg3.os.trans (al.os.trans t.os),hg3.tape.trans (al.tape.trans t.tape),hg3.output.trans (al.output.trans t.output),ZC t.size (ZC al.size hg3.size),fun q hq hn=>(hg3.block q (ZA (ZA hq t.size) al.size) (fun e2=>by have:=(a0t HO2.out e2.symm).1;have hq':=hq;rw[hs0] at hq';omega)).trans ((al.block q (ZA hq t.size)).trans (t.block q hq hn))⟩
     obtain⟨va,vc,rfl⟩:=a1i ho3
     clear ho3 hg3 z0 z1 z2 z3 lb
     go_wp2_with fail
     go_roundw
     case rel=>exact⟨k+1,by go_num,by omega,q3,q4,q5⟩
     case measure=>simp;omega
  ·have hkN:k=N:=by omega
   have hE:Hid (a4m M l k=a1y M l):=a0a (by rw[hkN,hNn.out];exact b0q M l)
   rw[hE.out] at HO ⊢
   go_wp2_with fail
   go_ret
   exact⟨_,rfl,a5n _ HO.out (by omega),HBr.out⟩
end Go.Proofs.YtbddbnjhmdbkbaaGreatDoor

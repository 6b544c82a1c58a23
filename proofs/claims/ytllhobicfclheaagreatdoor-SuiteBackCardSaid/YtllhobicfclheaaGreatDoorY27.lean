/-
  A part of a proof. No conditions.
-/
import Derived.Test.YtllhobicfclheaaGreatDoorY15
import Derived.Test.YtllhobicfclheaaGreatDoorY26
namespace Go.Proofs.YtllhobicfclheaaGreatDoor
open Go.ChangeShapes Go.WideShapes Go.ChangeAt Go.RowKit
set_option linter.unusedVariables false
set_option maxRecDepth 100000
set_option maxHeartbeats 51200000
namespace O2
open Ms
open S1 (okS outS putS)
open G1 (outF okF typF datF)
open J1 K1 I1 I2 L1 Lk L2 O1
open F1 (T okT l0d encT enc1 outT outB trail wrap placed w0c c0d m0b h0e c0c l0b bt d0b o0b)
open Nu
def Known (e p:Kx):Prop:=∀ f,¬(e.nx f).size=0→¬(p.nx f).size=0
theorem c0g {a b c:Kx}(h:Known a b)(k:Known b c):Known a c:=fun f hf=>k f (h f hf)
theorem nx_setN (c:Kx)(g f:Int)(a:ByteArray):(c.setN g a).nx f=a∨(c.setN g a).nx f=c.nx f:=by
 unfold Kx.setN Kx.nx
 by_cases h:g=1<;>by_cases k:f=1<;>simp[h,k]
theorem nx_other (c:Kx)(g f:Int)(a:ByteArray):((g=1↔f=1)∧(c.setN g a).nx f=a)∨(¬(g=1↔f=1)∧(c.setN g a).nx f=c.nx f):=by
 unfold Kx.setN Kx.nx
 by_cases h:g=1<;>by_cases k:f=1<;>simp[h,k]
theorem g1d (c:Kx)(ae f:Int)(a:ByteArray):(c.setP ae a).nx f=c.nx f:=by unfold Kx.setP Kx.nx;(repeat' split)<;>rfl
theorem q1m (c:Kx)(u:Up)(a:ByteArray)(f:Int):(flagC c u a).nx f=c.nx f:=by
 have hp:=g1d c u.ae f a
 have hi:∀ (x:Kx) (y:ByteArray),({ x with id:=y}:Kx).nx f=x.nx f:=fun x y=>rfl
 unfold flagC;split
 · rfl
 split
 · rw[hi];split
   · exact hp
   · rfl
 split
 · exact hp
 · rfl
theorem v1r {c c':Kx}{t:Int}{d:ByteArray}{r:List M}(hc:okC c=true)(h:outC c t d=(c',r,0)) :
    Known c c'∧(r = []∨∃ m,r = [m]∧okU m=true∧10≤d.size∧(¬m.metric=65535→m.next=c'.nx (fam m.ae))):=by
 have hg:=(d0f t d hc).told;rw[h]at hg;unfold outC at h;by_cases h6:t=6
 · rw[if_pos h6]at h;unfold out6 at h
   split at h<;>(injection h with h1 h2;injection h2 with h2 h3;subst h1;subst h2)
   · exact⟨fun f hf=>hf,.inl rfl⟩
   · exact⟨fun f hf=>hf,.inl rfl⟩
 rw[if_neg h6]at h;by_cases h7:t=7
 · rw[if_pos h7]at h;unfold out7 at h;by_cases k1:d.size<2
   · rw[if_pos k1]at h;injection h with h1 h2;injection h2 with h2 h3;cases h3
   rw[if_neg k1]at h;by_cases k2:bt d 0=0∨3<bt d 0
   · rw[if_pos k2]at h;injection h with h1 h2;injection h2 with h2 h3;subst h1;subst h2
     exact⟨fun f hf=>hf,.inl rfl⟩
   rw[if_neg k2]at h;by_cases k:(fixO d (2+sizeA (bt d 0))).2=0∧(fixO d (2+sizeA (bt d 0))).1=true
   · rw[if_pos k]at h;injection h with h1 h2;injection h2 with h2 h3;subst h1;subst h2
     have hz:¬d.size<2+sizeA (bt d 0):=fun h=>by rw[d0i h]at k;cases k.2
     have:=d0b d 0
     have hs:=f0h (ae:=bt d 0) (d:=d) (by omega) (by omega) hz
     refine⟨fun f hf=>?_,.inl rfl⟩
     rcases nx_setN c (fam (bt d 0)) f (hopA (bt d 0) d)with e|e
     · rw[e,hs];split<;>omega
     · rw[e];exact hf
   · rw[if_neg k]at h;injection h with h1 h2;injection h2 with h2 h3;subst h1;subst h2
     exact⟨fun f hf=>hf,.inl rfl⟩
 rw[if_neg h7]at h
 rcases outK_cases d with⟨e,hk⟩|⟨x,g,hk⟩
 · rw[d0v hk]at h;injection h with h1 h2;injection h2 with h2 h3;subst h1;subst h2
   exact⟨fun f hf=>hf,.inl rfl⟩
 have h10:10≤d.size:=by have:=g.size;unfold restN at this;omega
 rw[q0m hk]at h
 generalize hu:({ hdK d with hav:=if x.known then 1 else 0,bytes:=x.bytes,sl:=x.sl}:Up)=u at h
 by_cases hx:0<u.om∧(c.pf u.ae).size=0
 · rw[s0u hx]at h;injection h with h1 h2;injection h2 with h2 h3;cases h3
 rw[s0m hx]at h
 injection h with h1 h2;injection h2 with h2 h3
 subst h1
 refine⟨fun f hf=>by rw[q1m];exact hf,?_⟩
 by_cases ht:tellB (flagC c u (adrC c u)) u=true
 · rw[if_pos ht]at h2;subst h2
   rcases hg with hg|⟨m,hm,ho,_⟩
   · cases hg
   · refine .inr ⟨m,hm,ho,h10,fun hm2=>?_⟩
     have hm:updM (flagC c u (adrC c u)) u (adrC c u)=m:=by have:[_] = [_]:=hm;injection this
     subst hm;have hmu:¬u.metric=65535:=hm2
     show(if u.metric=65535 then ByteArray.empty else _)=_
     rw[if_neg hmu];rfl
 · rw[if_neg ht]at h2;exact .inl h2.symm
theorem b0w {c c':Kx}{t:Int}{d:ByteArray}{r:List M}(hc:okC c=true)(ht:0≤t)(ht2:t≤255)(hd:d.size≤255)(h:one c t d=(c',r,0)) :
    Known c c'∧(r = []∨∃ m,r = [m]∧okL m=true∧¬t=0∧(∀ e:Kx,(encT (elsL e m)).length≤30*(2+d.size))∧(m.kind=11→¬m.metric=65535→m.next=c'.nx (fam m.ae))):=by
 by_cases h0:t=0∨t=1
 · rw[v0t h0]at h;injection h with h1 h2;injection h2 with h2 h3;subst h1;subst h2
   exact⟨fun f hf=>hf,.inl rfl⟩
 by_cases h1:2≤t∧t≤5
 · rw[s1c h1.1 h1.2]at h;unfold tell at h
   injection h with e1 e2;injection e2 with e2 e3;subst e1
   refine⟨fun f hf=>hf,?_⟩
   rcases G1.out_cases (d:=d) h1.1 h1.2 with⟨e,k⟩|⟨m,k,ho,hz,_⟩
   · rw[k,if_neg (by simp)]at e2;exact .inl e2.symm
   · rw[k,if_pos ⟨rfl,rfl⟩]at e2
     have hl:okL m=true:=by unfold okL;rw[ho];rfl
     have hk:=m0f ho
     refine .inr ⟨m,e2.symm,hl,by omega,fun e=>?_,fun q=>by omega⟩
     unfold elsL
     rw[if_neg (by omega)]
     have:(encT [othE m]).length=(G1.putF m).size:=by
      unfold othE;rw[if_pos ho,l0h,←(G1.c0p ho).1];exact J1.c0a _
     omega
 by_cases h2:6≤t∧t≤8
 · rw[h0t h2.1 h2.2]at h;obtain⟨g1,g2⟩:=v1r hc h;refine⟨g1,?_⟩
   rcases g2 with g2|⟨m,hm,ho,hz,hn⟩
   · exact .inl g2
   have hl:okL m=true:=by unfold okL;rw[ho];simp
   refine .inr ⟨m,hm,hl,by omega,fun e=>?_,fun _=>hn⟩
   have ok:=(m0c m).1 ho;unfold elsL
   rw[if_pos ok.kind,m0b,List.length_append,l0h,l0b,if_neg (by show ¬(8:Int)=0;decide)]
   have s1:=(q0i ho (y0s (c:=e) ho).1).2
   have hw:(encT (wayE e m)).length≤32:=by
    unfold wayE;by_cases hm:m.metric=65535
    · rw[if_pos hm];exact Nat.zero_le _
    · rw[if_neg hm,m0b,List.length_append];obtain⟨w1,w2,w3⟩:=u0f ok.way hm
      have a1:(encT (if m.id=e.id then []else [(idD m.id,6)])).length≤12:=by
       split
       · exact Nat.zero_le _
       · rw[l0h,l0b,if_neg (by show ¬(6:Int)=0;decide)]
         have:=(g1h w2).2
         show 2+(idD m.id).size≤12
         omega
      have a2:(encT (if m.next=e.nx (fam m.ae)then []else [(hopD m.next,7)])).length≤20:=by
       split
       · exact Nat.zero_le _
       · rename_i hne
         rw[l0h,l0b,if_neg (by show ¬(7:Int)=0;decide)]
         show 2+(hopD m.next).size≤20
         rcases w3 with q|q
         · have:(hopD m.next).size≤18:=by
            show(layN (hopE m.next) 1++(0::(hopS m.next).data.toList)).toArray.size≤18
            have hl:link m.next=false:=by
             rcases hlk:link m.next with _|_
             · rfl
             · have:=i0d hlk;omega
            have e1:hopE m.next=2:=by unfold hopE;rw[if_neg (by omega),if_neg (by rw[hl];decide)]
            have e2:hopS m.next=m.next:=by unfold hopS;rw[if_neg (by omega),if_neg (by rw[hl];decide)]
            obtain⟨ca,ha,_⟩:=e0f (v:=2) (by omega) (by omega)
            rw[e1,e2,ha];simp;omega
           omega
         · have:m.next.size=4∨m.next.size=16:=by
            have hf:¬fam m.ae = -1:=by
             obtain⟨a0,a1,_,_⟩:=q0b (r0b ok.pfx).1;unfold fam
             rcases(show m.ae=1∨m.ae=2∨m.ae=3 by omega)with k|k|k<;>rw[k]<;>decide
            unfold famA at q
            by_cases h4:m.next.size=4
            · exact .inl h4
            · by_cases h16:m.next.size=16
              · exact .inr h16
              · rw[if_neg h4,if_neg h16]at q;exact absurd q.symm hf
           have:=(L1.f0h this).2;omega
      omega
   show(encT (wayE e m)).length+(2+(updD m (omN e m)).size)≤_
   omega
 by_cases h3:t=9∨t=10
 · rw[i1b h3]at h;unfold tell at h
   injection h with e1 e2;injection e2 with e2 e3;subst e1
   refine⟨fun f hf=>hf,?_⟩
   rcases J1.out_cases (d:=d) h3 with⟨e,k⟩|⟨x,g,_,_,k,ho,hz⟩
   · rw[k,if_neg (by simp)]at e2;exact .inl e2.symm
   · rw[k,if_pos ⟨rfl,rfl⟩]at e2
     generalize ({ hdJ t d with pfx:=wholeP (bt d 0) x.bytes (bt d 1),sl:=x.sl}:M)=m at *
     have hl:okL m=true:=by unfold okL;rw[ho];simp
     have hk:=h0g ho
     refine .inr ⟨m,e2.symm,hl,by omega,fun e=>?_,fun q=>by omega⟩
     unfold elsL
     rw[if_neg (by omega)]
     have nF:okF m=false:=by
      rcases hF:okF m with _|_
      · rfl
      · have:=m0f hF;omega
     have:(encT [othE m]).length=(J1.putJ m).size:=by
      unfold othE
      rw[if_neg (by rw[nF];decide),if_pos ho,l0h,←(J1.j0p ho).1];exact J1.c0a _
     omega
 · rw[d1c (by omega)]at h
   injection h with e1 e2;injection e2 with e2 e3;subst e1;subst e2
   refine⟨fun f hf=>hf,.inr ⟨_,rfl,?_,by omega,fun e=>?_,fun q=>absurd q (by show ¬(14:Int)=11;decide)⟩⟩
   · have hb:bare (opM t d)=true:=by
      unfold bare;rw[(k0n (m:=opM t d) rfl).1,(k0n (m:=opM t d) rfl).2];unfold M.same M.flatE Own.k14 opM M.zero;simp
     have ho:okO (opM t d)=true:=by
      unfold okO;rw[hb]
      show(decide ((14:Int)=14)&&(true&&(decide (11≤t)&&(decide (t≤255)&&decide (d.size≤255)))))=true
      rw[decide_eq_true (show 11≤t by omega),decide_eq_true ht2,decide_eq_true hd];rfl
     unfold okL;rw[ho];simp
   · unfold elsL
     rw[if_neg (by show ¬(14:Int)=11;decide)]
     have nF:okF (opM t d)=false:=by
      rcases hF:okF (opM t d)with _|_
      · rfl
      · have:=m0f hF;have h14:(opM t d).kind=14:=rfl;omega
     have nJ:okJ (opM t d)=false:=by
      rcases hJ:okJ (opM t d)with _|_
      · rfl
      · have:=h0g hJ;have h14:(opM t d).kind=14:=rfl;omega
     unfold othE
     rw[if_neg (by rw[nF];decide),if_neg (by rw[nJ];decide),l0h,l0b]
     show(if t=0 then 1 else 2+d.size)≤_
     split<;>omega
theorem said:∀ (ts:List T) (cP cE:Kx) (o:List M) (a:List F1.El) (i:Int),okC cP=true→Known cE cP→(foldI ts cP o).2.2.2=0→(∀ x∈ts,0≤x.2.2∧x.2.2≤255∧x.2.1.size≤255)→
    (encT a).length+30*(encT (ts.map (·.2))).length≤65531→∃ r,(foldI ts cP o).1=o++r∧r.all okL=true∧(outW r cE a i).2.2=0
  | [],cP,cE,o,a,i,_,_,_,_,_=>⟨[],by rw[List.append_nil];rfl,rfl,rfl⟩
  | x::ts,cP,cE,o,a,i,hc,hk,h0,hx,hz=>by
      have hx1:=hx x (by simp)
      have hxs:∀ y∈ts,0≤y.2.2∧y.2.2≤255∧y.2.1.size≤255:=fun y hy=>hx y (by simp[hy])
      have hlen:(encT ((x::ts).map (·.2))).length=(if x.2.2=0 then 1 else 2+x.2.1.size)+(encT (ts.map (·.2))).length:=by
        rw[List.map_cons,c0c,List.length_append,l0b]
      rw[hlen]at hz
      by_cases h1:(one cP x.2.2 x.2.1).2.2=0
      rotate_left
      · rw[w0f h1]at h0;exact absurd h0 h1
      rcases hp:one cP x.2.2 x.2.1 with⟨c',r,e⟩
      rw[hp]at h1
      obtain rfl:e=0:=h1
      have g:=e0k hc x.2.2 x.2.1
      rw[hp]at g
      rw[d0e hp]at h0⊢
      obtain⟨k1,k2⟩:=b0w hc hx1.1 hx1.2.1 hx1.2.2 hp
      rcases k2 with k2|⟨m,hm,hl,ht,hs,hn⟩
      · subst k2
        rw[List.append_nil]at h0⊢
        exact said ts c' cE o a i g.ok (c0g hk k1) h0 hxs (by omega)
      subst hm
      have hs:=hs cE
      rw[if_neg ht]at hz
      have hb:badC cE m=false:=by
        rcases hb:badC cE m with _|_
        · rfl
        exfalso
        unfold badC at hb
        simp only[Bool.and_eq_true,decide_eq_true_eq,Bool.not_eq_true',decide_eq_false_iff_not]at hb
        obtain⟨b1,b2,b3,b4⟩:=hb
        have:=c0g hk k1 _ b4
        rw[←hn b1 b2]at this
        exact this b3
      have hkn:Known (ctxL cE m) c':=by
        unfold ctxL
        by_cases k:m.kind=11
        · rw[if_pos k]
          intro f hf
          have e:(knowP (wayC cE m) m).nx f=(wayC cE m).nx f:=by
            unfold knowP
            split
            · rfl
            · exact g1d _ _ _ _
          rw[e]at hf
          unfold wayC at hf
          by_cases hm:m.metric=65535
          · rw[if_pos hm]at hf
            exact c0g hk k1 f hf
          · rw[if_neg hm]at hf
            rcases nx_other ({ cE with id:=m.id}:Kx) (fam m.ae) f m.next with⟨q1,q2⟩|⟨_,q2⟩
            · rw[q2,hn k hm]at hf
              have:c'.nx (fam m.ae)=c'.nx f:=by
                unfold Kx.nx
                by_cases w:f=1
                · rw[if_pos (q1.2 w),if_pos w]
                · rw[if_neg (fun z=>w (q1.1 z)),if_neg w]
              rw[this]at hf
              exact hf
            · rw[q2]at hf
              exact c0g hk k1 f hf
        · rw[if_neg k]
          exact c0g hk k1
      obtain⟨r,e1,e2,e3⟩:=said ts c' (ctxL cE m) (o ++ [m]) (a++elsL cE m) (i+1) g.ok hkn h0 hxs (by rw[m0b,List.length_append];omega)
      refine⟨m::r,by rw[e1,List.append_assoc];rfl,by rw[List.all_cons,hl,e2];rfl,?_⟩
      show(if _ then _ else if _ then _ else _:ByteArray×Int×Int).2.2=0
      rw[if_neg (by rw[hb];decide),if_neg (by rw[m0b,List.length_append];omega)]
      exact e3
theorem j0g {m:M}(h:okL m=true):canM m={ m with la:=none,ll:=[],lc:=0,sa:=none,sc:=0}:=by
 obtain⟨h1,h2,h3,h4,h5⟩:=o0y h;unfold M.same M.flatE at h1;simp only[bytes_beq,Bool.and_eq_true,decide_eq_true_eq]at h1;have hs:(canM m).sa=none:=rfl;have hc:(canM m).sc=0:=rfl
 rcases hq:canM m with⟨⟩
 rw[hq]at h1 h2 h3 h4 h5 hs hc;simp only at h1 h2 h3 h4 h5 hs hc;simp_all
theorem c1d:∀ (ts:List T) (c:Kx) (o:List M),okC c=true→o.all okL=true→(∀ x∈ts,0≤x.2.2∧x.2.2≤255∧x.2.1.size≤255)→(foldI ts c o).1.all okL=true
  | [],c,o,_,ho,_=>ho
  | x::ts,c,o,hc,ho,hx=>by
      have hx1:=hx x (by simp)
      by_cases h1:(one c x.2.2 x.2.1).2.2=0
      rotate_left
      · rw[w0f h1];rfl
      rcases hp:one c x.2.2 x.2.1 with⟨c',r,e⟩
      rw[hp]at h1
      obtain rfl:e=0:=h1
      have g:=e0k hc x.2.2 x.2.1
      rw[hp]at g
      rw[d0e hp]
      refine c1d ts c' (o++r) g.ok ?_ (fun y hy=>hx y (by simp[hy]))
      rw[List.all_append,ho,Bool.true_and]
      rcases(b0w hc hx1.1 hx1.2.1 hx1.2.2 hp).2 with k|⟨m,hm,hl,_⟩
      · rw[k];rfl
      · rw[hm,List.all_cons,hl];rfl
theorem x0s {l:List F1.El}(h:okT l)(p:Int):∀ x∈placed p l,0≤x.2.2∧x.2.2≤255∧x.2.1.size≤255:=fun x hx=>by
  have h:=h x.2 (by rw[←b0j l p];exact List.mem_map_of_mem hx)
  exact⟨h.1,h.2.1,h.2.2.1⟩
theorem n1o {m:M}(h:okL m=true)(h':okL (canM m)=true)(c:Kx):badC c (canM m)=badC c m∧elsL c (canM m)=elsL c m∧ctxL c (canM m)=ctxL c m:=by
 have ho:¬m.kind=11→othE (canM m)=othE m:=fun k=>by
  have hk:(canM m).kind=m.kind:=by rw[j0g h]
  have e1:datF (canM m)=datF m∧typF (canM m)=typF m:=by rw[j0g h];exact⟨rfl,rfl⟩
  have e2:datJ (canM m)=datJ m∧typJ (canM m)=typJ m:=by rw[j0g h];exact⟨rfl,rfl⟩
  have e3:(canM m).data=m.data∧(canM m).typ=m.typ:=by rw[j0g h];exact⟨rfl,rfl⟩
  unfold othE;rw[e1.1,e1.2,e2.1,e2.2,e3.1,e3.2]
  rcases ok_not h k with a|⟨a,b⟩|⟨a,b,d⟩<;>rcases ok_not h' (by rw[hk];exact k)with a'|⟨a',b'⟩|⟨a',b',d'⟩
  · rw[a,a',if_pos rfl,if_pos rfl]
  · have:=m0f a;have:=h0g b';omega
  · have:=m0f a;have:=(b0f d').1;omega
  · have:=m0f a';have:=h0g b;omega
  · rw[a,a',b,b']
  · have:=h0g b;have:=(b0f d').1;omega
  · have:=m0f a';have:=(b0f d).1;omega
  · have:=h0g b';have:=(b0f d).1;omega
  · rw[a,a',b,b']
 refine⟨by rw[j0g h];rfl,?_,by rw[j0g h];rfl⟩
 by_cases k:m.kind=11
 · have k':(canM m).kind=11:=by rw[j0g h];exact k
   unfold elsL;rw[if_pos k,if_pos k',j0g h];rfl
 · have k':¬(canM m).kind=11:=by rw[j0g h];exact k
   unfold elsL;rw[if_neg k,if_neg k',ho k]
theorem c1b:∀ (l:List M) (c:Kx) (a:List F1.El) (i:Int),l.all okL=true→(l.map canM).all okL=true→outW (l.map canM) c a i=outW l c a i
  | [],c,a,i,_,_=>rfl
  | m::l,c,a,i,h,h'=>by
      rw[List.all_cons,Bool.and_eq_true]at h
      rw[List.map_cons,List.all_cons,Bool.and_eq_true]at h'
      obtain⟨e1,e2,e3⟩:=n1o h.1 h'.1 c
      show(if badC c (canM m)=true then _ else if 65531<(encT (a++elsL c (canM m))).length then _ else outW (l.map canM) (ctxL c (canM m)) (a++elsL c (canM m)) (i+1))=(if badC c m=true then _ else if 65531<(encT (a++elsL c m)).length then _ else outW l (ctxL c m) (a++elsL c m) (i+1))
      rw[e1,e2,e3,c1b l _ _ _ h.2 h'.2]
theorem again {b:ByteArray}(hb:b.size≤2000)(h:(outP b).2.2=0):∃ s,outE (outP b).1=(s,0,0)∧(outP b).1.all okL=true∧outP s=((outP b).1.map canM,0,0)∧outE ((outP b).1.map canM)=(s,0,0)∧((s.size:Int)≤65535)∧((s.size:Int)≤outN (outP b).1):=by
 obtain⟨s,l,hh,h1,ho,hs,h2,h3,h4,h5⟩:=f0u h
 have hz:s.size≤b.size:=by
  rcases outB_two b with⟨i,e,he,q⟩|⟨s',_,q,hz⟩
  · rw[h1]at q;injection q with _ q;injection q with _ q;exact absurd q.symm he
  · rw[h1]at q;injection q with q;rw[q];exact hz
 have hl:(encT l).length=s.size:=by rw[←hs];exact J1.c0a _
 obtain⟨r,r1,r2,r3⟩:=said (placed 4 l) Kx.zero Kx.zero [] [] 0 c0k (fun f hf=>hf) h4 (x0s ho 4) (by rw[b0j,h0e];simp only[List.length_nil];omega)
 rw[List.nil_append]at r1
 have hr:(outP b).1=r:=by rw[h5];exact r1
 rw[hr]
 have he:(outE r).2.2=0:=by unfold outE;rw[if_pos r2];exact r3
 rcases enc_cases r with⟨_,a,c,a1,a2,a3,a4,a5,a6,a7,a8,_⟩|⟨_,j,e,he1,_,_,a3⟩|⟨n,_⟩
 · refine⟨_,a3,r2,a5,?_,by omega,by omega⟩
   have hall:(r.map canM).all okL=true:=by
    obtain⟨s2,l2,_,q1,qo,qs,q2,q3,q4,q5⟩:=f0u (b:=wrap ⟨(encT a).toArray⟩) (by rw[a5])
    have:=c1d (placed 4 l2) Kx.zero [] c0k rfl (x0s qo 4)
    rw[show(foldI (placed 4 l2) Kx.zero []).1=(outP (wrap ⟨(encT a).toArray⟩)).1 by rw[q5];rfl,a5]at this
    exact this
   unfold outE at a3⊢;rw[if_pos hall,c1b r _ _ _ r2 hall];rw[if_pos r2]at a3;exact a3
 · rw[a3]at he;exfalso;have:e=0:=he;omega
 · exact absurd r2 n
theorem s1n {l:List M}(h:l.all okL=true):∀ m∈l,M.same m (canM m)=true:=fun m hm=>(o0y (List.all_eq_true.1 h m hm)).1
end O2
namespace An
open Ms Box
theorem f0c {B g:Nat}{w:World}{v:Value}{l:List El}(h:Sx.Lst B w v l)(hg:g<B)(cs:Array Value):Sx.Lst B (w.setRow g cs) v l:=by
 refine' qz2z
theorem s0e {B B':Nat}{w:World}{v:Value}{l:List El}(h:Sx.Lst B w v l)(hB:B'≤B):Sx.Lst B' w v l:=by
 refine' qz3f
def AnsB (p:M×Bool×Int)(w:World)(e:Ending)(w':World):Prop:=
  ∃ sa sc,e = .returned (.tuple #[.agg (M.cells { p.1 with sa:=sa,sc:=sc}),.bool p.2.1,.int .i64 p.2.2])∧
    Sx.Lst w.heap.size w' (.slice sa p.1.sl.length sc) p.1.sl∧Below w.heap.size w w'
theorem AnsB.no {p:M×Bool×Int}{w w':World}{d:Int}(h:p=(M.zero,false,d))(hb:Below w.heap.size w w'):AnsB p w (.returned (.tuple #[.agg M.zero.cells,.bool false,.int .i64 d])) w':=by
 subst h;exact⟨none,0,rfl,Sx.Lst.nil _ _,hb⟩
theorem AnsB.subs {p:M×Bool×Int}{w w':World}{r:M}{a:Option Addr}{l:List El}{c B:Nat}(h:p=({ r with sl:=l},true,0))(hl:Sx.Lst B w' (.slice a l.length c) l)(hB:w.heap.size≤B)(hb:Below w.heap.size w w') :
    AnsB p w (.returned (.tuple #[.agg (M.cells { r with sa:=a,sl:=l,sc:=c}),.bool true,.int .i64 0])) w':=by
 subst h;exact⟨a,c,rfl,s0e hl hB,hb⟩
theorem t0a {fn:Func}{P:Program}{p q r:Nat}{ty:TypeId}(h:fn.results = #[.cell p ty,.tmp q,.tmp r])(tmps:Array Value)(w:World)(g:Nat)(u:Value)
    (hp:tmps.getD p undef = .pointer (some ⟨g,0,none⟩)) (hl:(loadVar ty ⟨g,0,none⟩).run P w = .ok u w) (v:Value) (hv:tmps.getD q undef=v) (x:Value) (hx:tmps.getD r undef=x) :
    (results fn tmps).run P w = .ok (.tuple #[u,v,x]) w:=by
 refine' qz30
 have hx':tmps[r]?.getD undef=x:=by simpa using hx
 simp[results,h,hp',hv',hx',asAddr,hl]
theorem ret3 {fn:Func}{p q r:Nat}(h:fn.results = #[.cell p 29,.tmp q,.tmp r])(tmps:Array Value)(w:World)(g:Nat)(m:M)
    (hp:tmps.getD p undef = .pointer (some ⟨g,0,none⟩)) (hm:Bx w g m) (v:Value) (hv:tmps.getD q undef=v) (x:Value) (hx:tmps.getD r undef=x) :
    (results fn tmps).run Tryz.prog w = .ok (.tuple #[.agg m.cells,v,x]) w:=t0a h tmps w g _ hp (Own.loadVarM hm) v hv x hx
structure Fs (w W:World)(g:Nat)(f:M):Prop where
  m:Bx W g f
  i:f.In W
  bel:Below w.heap.size w W
theorem Fs.call {w W w':World}{g:Nat}{f:M}(h:Fs w W g f)(hb:Below W.heap.size W w'):Fs w w' g f:=⟨h.m.below hb,h.i.below hb,h.bel.trans (hb.mono h.bel.size)⟩
theorem Fs.new (w:World)(m:M)(hm:m.In w):Fs w (w.alloc (.cells m.cells 29)) w.heap.size m:=⟨Bx.new w m,hm.below (balloc (Below.refl _ w) _),balloc (Below.refl _ w) _⟩
theorem Fs.drew {w W:World}{g:Nat}{f:M}(h:Fs w W g f):Fs w W.drew g f:=⟨h.m,⟨h.i.d,h.i.s,h.i.dl,h.i.sl⟩,h.bel.drew⟩
def Pl (n m:M):Prop:=n={ m with sa:=n.sa,sc:=n.sc}
theorem Pl.refl (m:M):Pl m m:=rfl
theorem a0l {m:M}(h:Few.fewB m=true):m.ll.length≤300∧m.sl.length≤60∧∀ x∈m.sl,x.1.size≤1099511627776:=by
 unfold Few.fewB at h;refine' qzcs
 refine⟨h.1.1.1.1.1.1.1,h.1.1.1.1.1.1.2,fun x hx=>?_⟩
 have h2:=h.2;unfold Few.small at h2;rw[List.all_eq_true]at h2;have:=h2 x hx;rw[decide_eq_true_eq]at this;omega
theorem r1r {m:M}{w:World}(h:Few.fewB m=true)(hd:DRow w m.la m.ll)(hs:SRow w m.sa m.sl):m.In w:=⟨hd,hs,by have:=(a0l h).1;omega,by have:=(a0l h).2.1;omega⟩
end An
end Go.Proofs.YtllhobicfclheaaGreatDoor

/-
  A part of a proof. No conditions.
-/
import Derived.Test.YtllhobicfclheaaGreatDoorY25
namespace Go.Proofs.YtllhobicfclheaaGreatDoor
open Go.ChangeShapes Go.WideShapes Go.ChangeAt Go.RowKit
set_option linter.unusedVariables false
set_option maxRecDepth 100000
set_option maxHeartbeats 51200000
namespace I2
open Ms K1 I1 F1
theorem b0j:∀ (l:List F1.El) (p:Int),(placed p l).map (·.2)=l
  | [],p=>rfl
  | x::l,p=>by
      show x::(placed _ l).map (·.2)=x::l
      rw[b0j l]
theorem p0s (p:Int)(s:ByteArray):(outT p s).1.length≤s.size∧∀ x∈(outT p s).1,0≤x.2.2∧x.2.2≤255∧x.2.1.size≤255:=by
 refine⟨j1k p s,fun x hx=>?_⟩
 rcases out_cases p s with⟨l,ho,_,hl⟩|⟨l,r,_,_,_,_,hl⟩
 · rw[hl]at hx
   have h:=ho x.2 (by rw[←b0j l p];exact List.mem_map_of_mem hx)
   exact⟨h.1,h.2.1,h.2.2.1⟩
 · rw[hl]at hx;exact absurd hx (by simp)
theorem outB_two (b:ByteArray):(∃ i e,¬e=0∧outB b=(⟨#[]⟩,i,e))∨∃ s,head b=none∧outB b=(s,0,0)∧s.size≤b.size:=by
 unfold outB
 rcases hh:head b with _|⟨i,x⟩
 · exact .inr ⟨_,rfl,rfl,by simp;omega⟩
 · refine .inl ⟨i,x,?_,rfl⟩;intro h0;subst h0;unfold head at hh
   repeat' (split at hh)
   all_goals(first|(injection hh with hh;injection hh with _ hh;exact absurd hh (by omega))|cases hh)
theorem f0u {b:ByteArray}(h:(outP b).2.2=0):∃ s l,head b=none∧outB b=(s,0,0)∧okT l∧s.data.toList=encT l∧outT 4 s=(placed 4 l,0,0)∧(outT (4+(s.size:Int)) (trail b)).2.2=0∧(outI (placed 4 l)).2.2.2=0∧outP b=((outI (placed 4 l)).1,(outI (placed 4 l)).2.2.1,0):=by
 rcases outB_two b with⟨i,e,he,h1⟩|⟨s,hh,h1,_⟩
 · exact absurd (by rw[r0r (by rw[h1];exact he),h1]at h;exact h) he
 by_cases h2:(outT 4 s).2.2=0;rotate_left
 · exact absurd (by rw[j0q h1 h2]at h;exact h) h2
 by_cases h3:(outT (4+(s.size:Int)) (trail b)).2.2=0;rotate_left
 · exact absurd (by rw[h0r h1 h2 h3]at h;exact h) h3
 have h4:=n0n h1 h2 h3
 rcases out_cases 4 s with⟨l,ho,hs,hl⟩|⟨l,r,ho,hs,hr,hn,hl⟩
 · rw[hl]at h4;rw[h4]at h
   exact⟨s,l,hh,h1,ho,hs,hl,h3,h,by rw[h4,show(outI (placed 4 l)).2.2.2=0 from h]⟩
 · rw[hl]at h2;exact absurd h2 (by simp)
theorem x1h (b:ByteArray):(outP b).1.length≤b.size:=by
 rcases outB_two b with⟨i,e,he,h1⟩|⟨s,hh,h1,hz⟩
 · rw[r0r (by rw[h1];exact he)];exact Nat.zero_le _
 by_cases h2:(outT 4 s).2.2=0;rotate_left
 · rw[j0q h1 h2];exact Nat.zero_le _
 by_cases h3:(outT (4+(s.size:Int)) (trail b)).2.2=0;rotate_left
 · rw[h0r h1 h2 h3];exact Nat.zero_le _
 rw[n0n h1 h2 h3];have hl:=(p0s 4 s).1
 rcases I1.out_cases (outT 4 s).1 with⟨r,c,h,_,h4,_⟩|⟨a,e,_,h⟩
 · rw[h];show r.length≤b.size;omega
 · rw[h];exact Nat.zero_le _
end I2
namespace L2
open Ms
open S1 (okS outS putS)
open G1 (outF okF typF datF)
open J1 K1 I1 L1
open Pre (leadN leastN)
open Own (ownM)
open F1 (T okT l0d e0n encT enc1 ok1 outT placed m0b c0c h0e l0b c0d w0c)
open Nu
def okO (m:M):Bool:=decide (m.kind=14)&&(bare m&&(decide (11≤m.typ)&&(decide (m.typ≤255)&&decide (m.data.size≤255))))
def okL (m:M):Bool:=okF m||(okJ m||(okU m||okO m))
theorem m0f {m:M}(h:okF m=true):7≤m.kind∧m.kind≤10:=by
 rcases G1.kind_cases ((G1.x0a m).1 h).kind with k|k|⟨k,_⟩|⟨k,_⟩<;>omega
theorem h0g {m:M}(h:okJ m=true):m.kind=12∨m.kind=13:=by
 rcases J1.kind_cases ((J1.x0a m).1 h).kind with k|⟨k,_⟩<;>omega
theorem b0f {m:M}(h:okO m=true):m.kind=14∧bare m=true∧11≤m.typ∧m.typ≤255∧m.data.size≤255:=by
 unfold okO at h;simpa only[Bool.and_eq_true,decide_eq_true_eq]using h
theorem ok_u {m:M}(h:okL m=true)(k:m.kind=11):okU m=true:=by
 unfold okL at h;simp only[Bool.or_eq_true]at h
 rcases h with h|h|h|h
 · have:=m0f h;omega
 · have:=h0g h;omega
 · exact h
 · have:=(b0f h).1;omega
theorem ok_not {m:M}(h:okL m=true)(k:¬m.kind=11):okF m=true∨(okF m=false∧okJ m=true)∨(okF m=false∧okJ m=false∧okO m=true):=by
 unfold okL at h;simp only[Bool.or_eq_true]at h
 rcases h with h|h|h|h
 · exact .inl h
 · refine .inr (.inl ⟨?_,h⟩)
   rcases hF:okF m with _|_
   · rfl
   · have:=m0f hF;have:=h0g h;omega
 · exact absurd ((m0c m).1 h).kind k
 · have k14:=(b0f h).1;refine .inr (.inr ⟨?_,?_,h⟩)
   · rcases hF:okF m with _|_
     · rfl
     · have:=m0f hF;omega
   · rcases hJ:okJ m with _|_
     · rfl
     · have:=h0g hJ;omega
def othE (m:M):F1.El:=if okF m=true then(datF m,typF m)else if okJ m=true then(datJ m,typJ m)else(m.data,m.typ)
theorem z1c {m:M}(h:okL m=true)(k:¬m.kind=11)(c:Kx):one c (othE m).2 (othE m).1=(c,[canM m],0)∧ok1 (othE m)∧¬(othE m).2=0:=by
 unfold othE
 rcases ok_not h k with hF|⟨nF,hJ⟩|⟨nF,nJ,hO⟩
 · rw[if_pos hF];have hl:=G1.u0d hF
   refine⟨?_,(G1.c0p hF).2,by show ¬typF m=0;omega⟩
   rw[s1c hl.2.1 hl.2.2,G1.k0c hF];rfl
 · rw[if_neg (by rw[nF];decide),if_pos hJ]
   have hl:=(J1.u0d hJ).2
   refine⟨?_,(J1.j0p hJ).2,by show ¬typJ m=0;omega⟩
   rw[i1b hl,J1.k0c hJ];rfl
 · rw[if_neg (by rw[nF];decide),if_neg (by rw[nJ];decide)]
   obtain⟨o1,o2,o3,o4,o5⟩:=b0f hO
   refine⟨?_,⟨by show 0≤m.typ;omega,o4,o5,fun h0=>absurd h0 (by show ¬m.typ=0;omega)⟩,by show ¬m.typ=0;omega⟩
   rw[d1c (.inr (by show 10<m.typ;omega)),z1f o1]
theorem o0y {m:M}(h:okL m=true):M.same m (canM m)=true∧(canM m).la=none∧(canM m).ll = []∧(canM m).lc=0∧(canM m).sl=m.sl:=by
 by_cases k:m.kind=11
 · have o:=(m0c m).1 (ok_u h k)
   have h1:M.same m (ownM m)=true:=by have:=o.bare;unfold bare at this;simp at this;exact this.2
   rw[a1h k];refine⟨?_,rfl,rfl,rfl,rfl⟩;rw[(g0o k).2,k]at h1;exact h1
 rcases ok_not h k with hF|⟨_,hJ⟩|⟨_,_,hO⟩
 · exact G1.p0p hF
 · exact J1.p0p hJ
 · obtain⟨o1,o2,_⟩:=b0f hO
   have h1:M.same m (ownM m)=true:=by have:=o2;unfold bare at this;simp at this;exact this.2
   rw[z1f o1];have h2:=h1;rw[(k0n o1).2,o1]at h2
   have hs:m.sl = []:=by
    unfold M.same at h2;simp only[Bool.and_eq_true,decide_eq_true_eq]at h2;exact h2.2.2
   exact⟨h2,rfl,rfl,rfl,by rw[hs];rfl⟩
def omN (c:Kx)(m:M):Nat:=if m.ae=0∨(c.pf m.ae).size=0 then 0 else leadN ⟨((c.pf m.ae).data.toList.drop (baseN m.ae)).toArray⟩ (cutP m.ae m.pfx m.plen)
theorem y0s {c:Kx}{m:M}(h:okU m=true):omN c m≤countN m.ae m.plen∧(0<omN c m→¬(c.pf m.ae).size=0∧¬m.ae=0)∧((c.pf m.ae).data.toList.drop (baseN m.ae)).take (omN c m)=(cutP m.ae m.pfx m.plen).data.toList.take (omN c m):=by
 have hz:=t0e ((m0c m).1 h).pfx;unfold omN;by_cases h0:m.ae=0∨(c.pf m.ae).size=0
 · rw[if_pos h0]
   exact⟨Nat.zero_le _,fun h=>absurd h (Nat.lt_irrefl 0),rfl⟩
 · rw[if_neg h0]
   refine⟨?_,fun _=>⟨fun k=>h0 (.inr k),fun k=>h0 (.inl k)⟩,?_⟩
   · rw[←hz];exact(Ld.k0h _ _).2
   · have:=congrArg (fun b:ByteArray=>b.data.toList) (Ld.j1e ⟨((c.pf m.ae).data.toList.drop (baseN m.ae)).toArray⟩ (cutP m.ae m.pfx m.plen))
     simp only[n0a,List.drop_zero,Nat.sub_zero]at this;exact this
def wayE (c:Kx)(m:M):List F1.El:=if m.metric=65535 then []else(if m.id=c.id then []else [(idD m.id,6)])++(if m.next=c.nx (fam m.ae)then []else [(hopD m.next,7)])
def wayC (c:Kx)(m:M):Kx:=if m.metric=65535 then c else({ c with id:=m.id}:Kx).setN (fam m.ae) m.next
def badC (c:Kx)(m:M):Bool:=decide (m.kind=11)&&(!decide (m.metric=65535)&&(decide (m.next.size=0) && !decide ((c.nx (fam m.ae)).size=0)))
def elsL (c:Kx)(m:M):List F1.El:=if m.kind=11 then wayE c m ++ [(updD m (omN c m),8)]else [othE m]
def ctxL (c:Kx)(m:M):Kx:=if m.kind=11 then knowP (wayC c m) m else c
theorem k0q {c:Kx}{ae:Int}{a:ByteArray}(h:a=c.nx (fam ae)):c.setN (fam ae) a=c:=by
 subst h;unfold Kx.setN Kx.nx
 split<;>rfl
theorem near_next {c:Kx}{m:M}(h:okU m=true)(hm:¬m.metric=65535)(hb:badC c m=false):m.next=c.nx (fam m.ae)∨((m.next.size=4∨m.next.size=16)∧famA m.next=fam m.ae):=by
 have o:=(m0c m).1 h;obtain⟨w1,_,w3⟩:=u0f o.way hm;obtain⟨a0,a1,_,_⟩:=q0b (r0b o.pfx).1
 by_cases hz:m.next.size=0
 · left;unfold badC at hb;rw[decide_eq_true o.kind,decide_eq_false hm,decide_eq_true hz]at hb;simp only[Bool.not_false,Bool.true_and,Bool.not_eq_false',decide_eq_true_eq]at hb;rw[y0f hz,y0f hb]
 · have hf:famA m.next=fam m.ae:=by rcases w3 with k|k;exact absurd k hz;exact k
   have h0:¬fam m.ae = -1:=by
    unfold fam
    rcases(show m.ae=1∨m.ae=2∨m.ae=3 by omega)with k|k|k<;>rw[k]<;>decide
   refine .inr ⟨?_,hf⟩;unfold famA at hf
   by_cases h4:m.next.size=4
   · exact .inl h4
   · by_cases h16:m.next.size=16
     · exact .inr h16
     · rw[if_neg h4,if_neg h16]at hf;exact absurd hf.symm h0
theorem y1g (c:Kx)(m:M)(ae:Int):(wayC c m).pf ae=c.pf ae:=by
 have hs:∀ (x:Kx) (f:Int) (a:ByteArray),(x.setN f a).pf ae=x.pf ae:=fun x f a=>by unfold Kx.setN;split<;>rfl
 unfold wayC;split
 · rfl
 · rw[hs];rfl
theorem o1r (c:Kx)(ae:Int)(a:ByteArray):(c.setN (fam ae) a).nx (fam ae)=a:=by
 unfold Kx.setN Kx.nx;split
 · rfl
 · rfl
theorem y1f {c:Kx}{m:M}(hm:¬m.metric=65535):(wayC c m).id=m.id∧(wayC c m).nx (fam m.ae)=m.next:=by
 unfold wayC;rw[if_neg hm];refine⟨?_,o1r _ _ _⟩;unfold Kx.setN
 split<;>rfl
theorem x1f {c:Kx}{m:M}(h:okU m=true)(hb:badC c m=false)(p:Int)(o:List M):foldI (placed p (wayE c m)) c o=(o,wayC c m,0,0):=by
 have ok:=(m0c m).1 h;unfold wayE wayC;by_cases hm:m.metric=65535
 · rw[if_pos hm,if_pos hm];rfl
 rw[if_neg hm,if_neg hm];obtain⟨w1,w2,w3⟩:=u0f ok.way hm;have hn:=near_next h hm hb
 have hid:∀ p:Int,foldI (placed p (if m.id=c.id then []else [(idD m.id,6)])) c o=(o,{ c with id:=m.id},0,0):=fun p=>by
  by_cases hi:m.id=c.id
  · rw[if_pos hi,hi];rfl
  · rw[if_neg hi]
    show foldI [(p,(idD m.id,6))] c o=_
    rw[d0e (x:=(p,(idD m.id,6))) (f1r w2),List.append_nil];rfl
 have hnx:∀ (p:Int) (c':Kx),c'.nx (fam m.ae)=c.nx (fam m.ae)→foldI (placed p (if m.next=c.nx (fam m.ae)then []else [(hopD m.next,7)])) c' o=(o,c'.setN (fam m.ae) m.next,0,0):=fun p c' hc'=>by
  by_cases hi:m.next=c.nx (fam m.ae)
  · rw[if_pos hi,k0q (by rw[hc'];exact hi)];rfl
  · rw[if_neg hi]
    rcases hn with k|⟨k,k2⟩
    · exact absurd k hi
    · show foldI [(p,(hopD m.next,7))] c' o=_
      rw[d0e (x:=(p,(hopD m.next,7))) (i1l k),List.append_nil,k2]
      rfl
 rw[w0c,p0m,hid,if_pos rfl];exact hnx _ _ rfl
theorem p1j {c:Kx}{m:M}(h:okL m=true)(hb:badC c m=false)(p:Int)(o:List M):foldI (placed p (elsL c m)) c o=(o ++ [canM m],ctxL c m,0,0):=by
 unfold elsL ctxL;by_cases k:m.kind=11
 · rw[if_pos k,if_pos k];have hu:=ok_u h k;obtain⟨o1,o2,o3⟩:=y0s (c:=c) hu;rw[w0c,p0m,x1f hu hb,if_pos rfl]
   have h1:=w1m (c:=wayC c m) hu o1 (by rw[y1g];exact o3) (fun q=>by rw[y1g];exact(o2 q).1) (fun hm=>y1f hm)
   show foldI [(_,(updD m (omN c m),8))] (wayC c m) o=_
   rw[d0e (x:=(_,(updD m (omN c m),8))) h1];rfl
 · rw[if_neg k,if_neg k]
   show foldI [(p,othE m)] c o=_
   rw[d0e (x:=(p,othE m)) (z1c h k c).1];rfl
theorem l1k {c:Kx}{m:M}(hc:okC c=true)(h:okU m=true)(hb:badC c m=false):okC (wayC c m)=true:=by
 have ok:=(m0c m).1 h;have hk:=(o0f c).1 hc;obtain⟨a0,a1,_,_⟩:=q0b (r0b ok.pfx).1;unfold wayC;split
 · exact hc
 · rename_i hm;obtain⟨w1,w2,w3⟩:=u0f ok.way hm;rw[o0f]
   rcases near_next h hm hb with e|⟨e1,e2⟩
   · rw[k0q (c:={ c with id:=m.id}) (show m.next=({ c with id:=m.id}:Kx).nx (fam m.ae)from e)]
     exact hk.setI w2
   · refine(hk.setI w2).setN (by omega) a1 ?_
     unfold famA fam at e2
     rcases(show m.ae=1∨m.ae=2∨m.ae=3 by omega)with q|q|q<;>rw[q]at e2⊢<;> rcases e1 with e|e<;>rw[e]at e2⊢<;> simp at e2⊢
theorem w0e {c:Kx}{m:M}(hc:okC c=true)(h:okL m=true)(hb:badC c m=false):okC (ctxL c m)=true:=by
 unfold ctxL;split
 · rename_i k;have hu:=ok_u h k;have ok:=(m0c m).1 hu;obtain⟨a0,a1,_,_⟩:=q0b (r0b ok.pfx).1;unfold knowP;split
   · exact l1k hc hu hb
   · rw[o0f]
     exact((o0f _).1 (l1k hc hu hb)).setP (by omega) a1 (v1i ok.pfx)
 · exact hc
theorem g1h {a:ByteArray}(h:a.size=8):ok1 (idD a,6)∧(idD a).size=10:=by
 have:(idD a).size=10:=by show(0::0::a.data.toList).toArray.size=10;simp;omega
 exact⟨⟨by show(0:Int)≤6;decide,by show(6:Int)≤255;decide,by show(idD a).size≤255;omega,fun h=>absurd h (by show ¬(6:Int)=0;decide)⟩,this⟩
theorem g0r {a:ByteArray}(h:a.size=4∨a.size=16):ok1 (hopD a,7):=by
 have:=(L1.f0h h).2
 exact⟨by show(0:Int)≤7;decide,by show(7:Int)≤255;decide,by show(hopD a).size≤255;omega,fun h=>absurd h (by show ¬(7:Int)=0;decide)⟩
theorem j1b {m:M}{n:Nat}(h:okU m=true)(hn:n≤countN m.ae m.plen):ok1 (updD m n,8):=by
 have:=(q0i h hn).2
 exact⟨by show(0:Int)≤8;decide,by show(8:Int)≤255;decide,by show(updD m n).size≤255;omega,fun h=>absurd h (by show ¬(8:Int)=0;decide)⟩
theorem b0p {x:F1.El}(h:ok1 x):okT [x]:=fun y hy=>by rw[List.mem_singleton]at hy;exact hy▸h
theorem b1a {c:Kx}{m:M}(h:okL m=true)(hb:badC c m=false):okT (elsL c m):=by
 unfold elsL;by_cases k:m.kind=11
 · rw[if_pos k];have hu:=ok_u h k;have ok:=(m0c m).1 hu;refine c0d ?_ (b0p (j1b hu (y0s hu).1));unfold wayE;split
   · exact l0d
   · rename_i hm;obtain⟨w1,w2,w3⟩:=u0f ok.way hm;refine c0d ?_ ?_
     · split
       · exact l0d
       · exact b0p (g1h w2).1
     · split
       · exact l0d
       · rename_i hi
         rcases near_next hu hm hb with e|⟨e1,_⟩
         · exact absurd e hi
         · exact b0p (g0r e1)
 · rw[if_neg k];exact b0p (z1c h k c).2.1
def putL (c:Kx)(m:M):ByteArray×Kx×Int:=if okL m=true then(if badC c m=true then(ByteArray.empty,c,9)else(⟨(encT (elsL c m)).toArray⟩,ctxL c m,0))else(ByteArray.empty,c,1)
theorem v1c (m:M):omN Kx.zero m=0:=by
 unfold omN
 rw[if_pos (.inr (by unfold Kx.pf;(repeat' split)<;>rfl))]
theorem l0h (x:F1.El):(encT [x]).length=(enc1 x).length:=by rw[c0c,h0e,List.append_nil]
theorem f1e {c:Kx}{m:M}(h:okL m=true)(hb:badC c m=false):(encT (elsL c m)).length≤(encT (elsL Kx.zero m)).length:=by
 unfold elsL;by_cases k:m.kind=11
 · rw[if_pos k,if_pos k,m0b,m0b,List.length_append,List.length_append,l0h,l0h,l0b,l0b];have hu:=ok_u h k;have ok:=(m0c m).1 hu;have s1:=(q0i hu (y0s (c:=c) hu).1).1;have s2:=(q0i hu (y0s (c:=Kx.zero) hu).1).1;rw[v1c]at s2
   have hw:(encT (wayE c m)).length≤(encT (wayE Kx.zero m)).length:=by
    unfold wayE;by_cases hm:m.metric=65535
    · rw[if_pos hm,if_pos hm];exact Nat.le_refl _
    · rw[if_neg hm,if_neg hm,m0b,m0b,List.length_append,List.length_append];obtain⟨w1,w2,w3⟩:=u0f ok.way hm
      have z1:¬m.id=Kx.zero.id:=fun e=>by rw[e]at w2;exact absurd w2 (by decide)
      rw[if_neg z1]
      have hi:(encT (if m.id=c.id then []else [(idD m.id,6)])).length≤(encT [(idD m.id,6)]).length:=by
       split
       · exact Nat.zero_le _
       · exact Nat.le_refl _
      have hn:(encT (if m.next=c.nx (fam m.ae)then []else [(hopD m.next,7)])).length≤(encT (if m.next=Kx.zero.nx (fam m.ae)then []else [(hopD m.next,7)])).length:=by
       by_cases e:m.next=c.nx (fam m.ae)
       · rw[if_pos e];exact Nat.zero_le _
       · rw[if_neg e]
         have:¬m.next=Kx.zero.nx (fam m.ae):=fun z=>by
          rcases near_next hu hm hb with q|⟨q,_⟩
          · exact e q
          · rw[z]at q
            have z0:(Kx.zero.nx (fam m.ae)).size=0:=by unfold Kx.nx;split<;>rfl
            omega
         rw[if_neg this];exact Nat.le_refl _
      omega
   rw[v1c,if_neg (by show ¬(8:Int)=0;decide),if_neg (by show ¬(8:Int)=0;decide)]
   show(encT (wayE c m)).length+(2+(updD m (omN c m)).size)≤(encT (wayE Kx.zero m)).length+(2+(updD m 0).size)
   omega
 · rw[if_neg k,if_neg k];exact Nat.le_refl _
end L2
namespace O1
open Ms K1 I1 I2
open L1 (canM)
open L2
open F1 (T okT l0d encT outT outB trail wrap n0t o0n placed w0c c0d m0b h0e)
def outW:List M→Kx→List F1.El→Int→ByteArray×Int×Int
  | [],_,a,_=>(wrap ⟨(encT a).toArray⟩,0,0)
  | m::l,c,a,i=>if badC c m=true then(ByteArray.empty,i,9)else if 65531<(encT (a++elsL c m)).length then(ByteArray.empty,i,10)else outW l (ctxL c m) (a++elsL c m) (i+1)
def wrongAt:List M→Int→Int
  | [],_=>-1
  | m::l,i=>if okL m=true then wrongAt l (i+1)else i
def outE (l:List M):ByteArray×Int×Int:=if l.all okL=true then outW l Kx.zero [] 0 else(ByteArray.empty,wrongAt l 0,1)
def plainN:List M→Int
  | []=>0
  | m::l=>((encT (elsL Kx.zero m)).length:Int)+plainN l
def outN (l:List M):Int:=if l.all okL=true then 4+plainN l else 0
theorem w0o:∀ (l:List M) (i:Int),¬l.all okL=true→i≤wrongAt l i∧wrongAt l i<i+l.length
  | [],i,h=>absurd rfl h
  | m::l,i,h=>by
      unfold wrongAt
      by_cases hm:okL m=true
      · rw[if_pos hm]
        have:=w0o l (i+1) (fun k=>h (by rw[List.all_cons,hm,k];rfl))
        rw[List.length_cons];push_cast;omega
      · rw[if_neg hm,List.length_cons];push_cast;omega
theorem write_cases:∀ (l:List M) (c:Kx) (a:List F1.El) (i:Int),l.all okL=true→okC c=true→okT a→(encT a).length≤65531→
    (∃ b c',okT b∧(encT (a++b)).length≤65531∧outW l c a i=(wrap ⟨(encT (a++b)).toArray⟩,0,0)∧okC c'=true∧(∀ p o,foldI (placed p b) c o=(o++l.map canM,c',0,0))∧((encT b).length:Int)≤plainN l∧
      ∀ k,k≤l.length→∃ b1 b2,b=b1++b2∧outW (l.take k) c a i=(wrap ⟨(encT (a++b1)).toArray⟩,0,0))∨
    ∃ j e,(e=9∨e=10)∧i≤j∧j<i+l.length∧outW l c a i=(ByteArray.empty,j,e)
  | [],c,a,i,_,hc,ha,hz => .inl ⟨[],c,l0d,by rw[List.append_nil];exact hz,by rw[List.append_nil];rfl,hc,fun p o=>by rw[List.map_nil,List.append_nil];rfl,Int.le_refl _,fun k hk=>⟨[],[],rfl,by rw[List.take_nil,List.append_nil];rfl⟩⟩
  | m::l,c,a,i,ho,hc,ha,hz=>by
      rw[List.all_cons,Bool.and_eq_true]at ho
      by_cases hb:badC c m=true
      · refine .inr ⟨i,9,.inl rfl,Int.le_refl _,by rw[List.length_cons];push_cast;omega,?_⟩
        show(if _ then _ else _)=_
        rw[if_pos hb]
      have hb':badC c m=false:=by simpa using hb
      by_cases hs:65531<(encT (a++elsL c m)).length
      · refine .inr ⟨i,10,.inr rfl,Int.le_refl _,by rw[List.length_cons];push_cast;omega,?_⟩
        show(if _ then _ else _)=_
        rw[if_neg hb,if_pos hs]
      have hw:outW (m::l) c a i=outW l (ctxL c m) (a++elsL c m) (i+1):=by
        show(if _ then _ else _)=_
        rw[if_neg hb,if_neg hs]
      have he:=b1a ho.1 hb'
      rcases write_cases l (ctxL c m) (a++elsL c m) (i+1) ho.2 (w0e hc ho.1 hb') (c0d ha he) (by omega)with⟨b,c',h1,h2,h3,h4,h5,h6,h7⟩|⟨j,e,h1,h2,h3,h4⟩
      · refine .inl ⟨elsL c m++b,c',c0d he h1,by rw[←List.append_assoc];exact h2,by rw[hw,h3,List.append_assoc],h4,fun p o=>?_,?_,fun k hk=>?_⟩
        · rw[w0c,p0m,p1j ho.1 hb',if_pos rfl,h5,List.map_cons,List.append_assoc]
          rfl
        · rw[m0b,List.length_append]
          unfold plainN
          have:=f1e ho.1 hb'
          push_cast;omega
        · cases k with
          | zero=>exact⟨[],elsL c m++b,rfl,by rw[List.take_zero,List.append_nil];rfl⟩
          | succ k=>
            obtain⟨b1,b2,e1,e2⟩:=h7 k (by rw[List.length_cons]at hk;omega)
            refine⟨elsL c m++b1,b2,by rw[e1,List.append_assoc],?_⟩
            rw[List.take_succ_cons,←List.append_assoc,←e2]
            show(if _ then _ else _)=_
            rw[if_neg hb,if_neg hs]
      · exact .inr ⟨j,e,h1,by omega,by rw[List.length_cons];push_cast;omega,by rw[hw];exact h4⟩
theorem e0x {a:List F1.El}(ha:okT a)(hz:(encT a).length≤65531){r:List M}{c:Kx}(hf:foldI (placed 4 a) Kx.zero []=(r,c,0,0)):outP (wrap ⟨(encT a).toArray⟩)=(r,0,0)∧outB (wrap ⟨(encT a).toArray⟩)=(⟨(encT a).toArray⟩,0,0)∧(wrap ⟨(encT a).toArray⟩).size=4+(encT a).length:=by
 have hs:(⟨(encT a).toArray⟩:ByteArray).size=(encT a).length:=by show(encT a).toArray.size=_;simp
 have hw:=n0t (s:=⟨(encT a).toArray⟩) (t:=⟨#[]⟩) (by rw[hs];show 4+(encT a).length+0≤65535;omega)
 have he:wrap ⟨(encT a).toArray⟩++(⟨#[]⟩:ByteArray)=wrap ⟨(encT a).toArray⟩:=by
  apply Nu.k0a;simp
 rw[he]at hw;obtain⟨w1,w2,_⟩:=hw;have h2:outT 4 ⟨(encT a).toArray⟩=(placed 4 a,0,0):=F1.u0a ha rfl
 refine⟨?_,w1,by rw[o0n (by rw[hs];exact hz),hs]⟩
 rw[n0n w1 (by rw[h2]) (by rw[w2,F1.u0a (l:=[]) l0d rfl]),h2,show outI (placed 4 a)=foldI (placed 4 a) Kx.zero []from rfl,hf]
theorem enc_cases (l:List M):(l.all okL=true∧∃ a c,okT a∧(encT a).length≤65531∧outE l=(wrap ⟨(encT a).toArray⟩,0,0)∧okC c=true∧outP (wrap ⟨(encT a).toArray⟩)=(l.map canM,0,0)∧outB (wrap ⟨(encT a).toArray⟩)=(⟨(encT a).toArray⟩,0,0)∧
      (wrap ⟨(encT a).toArray⟩).size=4+(encT a).length∧((encT a).length:Int)+4≤outN l∧
      ∀ k,k≤l.length→∃ a1 a2,a=a1++a2∧outE (l.take k)=(wrap ⟨(encT a1).toArray⟩,0,0))∨
    (l.all okL=true∧∃ (j e:Int),(e=9∨e=10)∧0≤j∧j<l.length∧outE l=(ByteArray.empty,j,e))∨
    (¬l.all okL=true∧outN l=0∧∃ j,0≤j∧j<(l.length:Int)∧outE l=(ByteArray.empty,j,1)):=by
 by_cases ho:l.all okL=true;rotate_left
 · refine .inr (.inr ⟨ho,by unfold outN;rw[if_neg ho],wrongAt l 0,?_⟩)
   have:=w0o l 0 ho
   exact⟨this.1,by omega,by unfold outE;rw[if_neg ho]⟩
 rcases write_cases l Kx.zero [] 0 ho c0k l0d (by rw[h0e];exact Nat.zero_le _)with⟨b,c',h1,h2,h3,h4,h5,h6,h7⟩|⟨j,e,h1,h2,h3,h4⟩
 · refine .inl ⟨ho,b,c',h1,h2,by unfold outE;rw[if_pos ho];exact h3,h4,?_⟩
   have hf:=h5 4 [];rw[List.nil_append]at hf;obtain⟨p1,p2,p3⟩:=e0x h1 h2 hf
   refine⟨p1,p2,p3,by unfold outN;rw[if_pos ho];omega,fun k hk=>?_⟩
   obtain⟨b1,b2,e1,e2⟩:=h7 k hk;refine⟨b1,b2,e1,?_⟩;unfold outE
   rw[if_pos (by rw[List.all_eq_true]at ho⊢;exact fun x hx=>ho x (List.mem_of_mem_take hx))]
   exact e2
 · exact .inr (.inl ⟨ho,j,e,h1,h2,by omega,by unfold outE;rw[if_pos ho];exact h4⟩)
end O1
end Go.Proofs.YtllhobicfclheaaGreatDoor

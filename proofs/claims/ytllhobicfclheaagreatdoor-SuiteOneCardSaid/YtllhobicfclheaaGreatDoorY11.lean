/-
  A part of a proof. No conditions.
-/
import Derived.Test.YtllhobicfclheaaGreatDoorY10
namespace Go.Proofs.YtllhobicfclheaaGreatDoor
open Go.ChangeShapes Go.WideShapes Go.ChangeAt Go.RowKit
set_option linter.unusedVariables false
set_option maxRecDepth 100000
set_option maxHeartbeats 51200000
namespace Mb
open Ms Rp Ps Es
open Own (k1)
open Bk (E)
open Wr (cmd_or t0k e0g)
open Ma
theorem k1g {a b:ByteArray}(h:a.toList=b.toList):a=b:=by
 rw[ByteArray.toList_eq,ByteArray.toList_eq]at h;exact ByteArray.ext (Array.toList_inj.1 h)
structure Rt (m:M):Prop where
  kind:m.kind=1
  bare:B1.s0l m=true
  c:isCmd m.cmd=true
  v:isCmd m.ver=true
  a:authB m=true
  r:routeB m=true
theorem f0f {m:M}(h:rightB m=true):Rt m:=by
 unfold rightB headB at h;simp only[Bool.and_eq_true,beq_iff_eq]at h;exact⟨h.1,h.2.1,h.2.2.1.1,h.2.2.1.2.1,h.2.2.1.2.2,h.2.2.2⟩
theorem h1m {s:ByteArray}{n:Int}(hs:s.size=4)(h:Pre.rightZ s n=true):0≤n∧n≤32:=by
 unfold Pre.rightZ at h;refine' qzcs;omega
theorem t0v {n:Int}(h:isMet n=true):Oct.fitsB n 4=true:=by
 unfold isMet at h;refine' qzcs;rw[Oct.e0b]
 have:((Oct.pw (4:Int).toNat:Nat):Int)=4294967296:=by decide
 rw[this];omega
theorem q1j {n:Int}(h:0≤n∧n≤32):Mask.ofB n=Mask.maskB n.toNat∧Mask.isMask (Mask.ofB n)=true∧((Mask.plenN (Mask.ofB n):Nat):Int)=n∧(Mask.ofB n).size=4:=by
 obtain⟨k,rfl⟩:=Int.eq_ofNat_of_zero_le h.1
 have hk:k≤32:=by omega
 rw[(Mask.x0t k hk).1]
 exact⟨rfl,Mask.x0o k hk,by rw[Mask.q1e k hk],Wr.h0s k hk⟩
theorem f1d:(ByteArray.mk #[0,0,0,0]).size=4∧isN ⟨#[0,0,0,0]⟩=true:=⟨rfl,(q0h _).2 rfl⟩
theorem v0h {m:M}(h:rightB m=true)(al:Bool)(hal:m.family=0→al=true) :
    Ent.okE (entryM m)=true∧ckE (hdX m.cmd m.ver m.auth) (entryM m) al=0∧plenE (hdX m.cmd m.ver m.auth) (entryM m)=m.plen∧(m.family=0∨m.family=2):=by
 obtain⟨hk,hb,hc,hv,ha,hr⟩:=f0f h;obtain⟨s1,s2⟩:=Rn.l0o hr;unfold routeB at hr;by_cases f0:m.family=0
 · rw[if_pos f0]at hr;have hr2:=hr;unfold allB at hr;simp only[Bool.and_eq_true,beq_iff_eq]at hr;obtain⟨q1,q2,q3,q4,q5,q6⟩:=hr
   have hm:maskM m=⟨#[0,0,0,0]⟩:=by unfold maskM;rw[if_neg (fun hh=>by have:=hh.1;omega)]
   have hp:plenE (hdX m.cmd m.ver m.auth) (entryM m)=m.plen:=by unfold plenE;rw[if_pos (show(entryM m).fam=0 from f0),q3]
   refine⟨?_,?_,hp,.inl f0⟩
   · refine' qz6w;rw[f0,q2,q6,s1,s2,hm];decide
   · unfold ckE ck0
     rw[if_pos (show(entryM m).fam=0 from f0),hal f0]
     have hR:rightB (routeM (hdX m.cmd m.ver m.auth) (entryM m))=true:=by
      unfold rightB;rw[d0j]
      have h1:headB (routeM (hdX m.cmd m.ver m.auth) (entryM m))=true:=by
       show(isCmd m.cmd&&(isCmd m.ver&&authB m))=true
       rw[hc,hv,ha];rfl
      have h2:routeB (routeM (hdX m.cmd m.ver m.auth) (entryM m))=true:=by
       unfold routeB
       rw[if_pos (show(routeM (hdX m.cmd m.ver m.auth) (entryM m)).family=0 from f0)]
       unfold allB
       show(m.cmd==1&&(m.tag==0&&(plenE (hdX m.cmd m.ver m.auth) (entryM m)==0&&(isN m.pfx&&(isN m.next&&m.metric==16)))))=true
       rw[hp];exact hr2
      rw[h1,h2];rfl
     rw[hR,show isN (entryM m).mask=true from by show isN (maskM m)=true;rw[hm];exact f1d.2]
     rfl
 rw[if_neg f0]at hr;by_cases f2:m.family=2;rotate_left
 · rw[if_neg f2]at hr;cases hr
 rw[if_pos f2,Bool.and_eq_true]at hr;obtain⟨hmet,hr⟩:=hr
 have hcm:ckMet (entryM m)=0:=by unfold ckMet;rw[show isMet (entryM m).met=true from hmet];rfl
 by_cases v1:m.ver=1
 · rw[if_pos v1]at hr;unfold oneB at hr;simp only[Bool.and_eq_true,beq_iff_eq,decide_eq_true_eq]at hr;obtain⟨q1,q2,q3,q4⟩:=hr
   have hm:maskM m=⟨#[0,0,0,0]⟩:=by unfold maskM;rw[if_neg (fun hh=>by have:=hh.2;omega)]
   have hp:plenE (hdX m.cmd m.ver m.auth) (entryM m)=m.plen:=by unfold plenE;rw[if_neg (show ¬(entryM m).fam=0 from f0),if_pos (show(hdX m.cmd m.ver m.auth).ver=1 from v1),q2]
   refine⟨?_,?_,hp,.inr f2⟩
   · refine' qz6w;rw[f2,q1,s1,s2,hm,t0v hmet];decide
   · unfold ckE ck1
     rw[if_neg (show ¬(entryM m).fam=0 from f0),if_pos (show(entryM m).fam=2 from f2),if_pos (show(hdX m.cmd m.ver m.auth).ver=1 from v1),hcm]
     have:((entryM m).tag==0&&(isN (entryM m).mask&&isN (entryM m).next))=true:=by
      show(m.tag==0&&(isN (maskM m)&&isN m.next))=true
      rw[q1,hm,f1d.2,q4];rfl
     rw[this];rfl
 · rw[if_neg v1]at hr
   have v2:m.ver=2:=by rcases cmd_or hv with h|h<;>omega
   unfold twoB at hr;simp only[Bool.and_eq_true,decide_eq_true_eq]at hr;obtain⟨q1,q2,q3,q4⟩:=hr;have hz:=h1m s1 q3
   have hm:maskM m=Mask.ofB m.plen:=by unfold maskM;rw[if_pos ⟨f2,v2⟩]
   obtain⟨o1,o2,o3,o4⟩:=q1j hz
   have hp:plenE (hdX m.cmd m.ver m.auth) (entryM m)=m.plen:=by
    unfold plenE
    rw[if_neg (show ¬(entryM m).fam=0 from f0),if_neg (show ¬(hdX m.cmd m.ver m.auth).ver=1 from v1)]
    show((Mask.plenN (maskM m):Nat):Int)=m.plen
    rw[hm,o3]
   refine⟨?_,?_,hp,.inr f2⟩
   · refine' qz6w;rw[f2,q1,s1,s2,hm,o4,t0v hmet];decide
   · unfold ckE ck2
     rw[if_neg (show ¬(entryM m).fam=0 from f0),if_pos (show(entryM m).fam=2 from f2),if_neg (show ¬(hdX m.cmd m.ver m.auth).ver=1 from v1),hcm]
     have:(Mask.isMask (entryM m).mask&&Pre.rightZ (entryM m).addr ((Mask.plenN (entryM m).mask:Nat):Int))=true:=by
      show(Mask.isMask (maskM m)&&Pre.rightZ m.pfx ((Mask.plenN (maskM m):Nat):Int))=true
      rw[hm,o2,o3,q3];rfl
     rw[this];rfl
theorem n0z {m:M}(h:rightB m=true):M.same m (routeM (hdX m.cmd m.ver m.auth) (entryM m))=true:=by
 obtain⟨hk,hb,_⟩:=f0f h
 have hp:=(v0h h true (fun _=>rfl)).2.2.1
 unfold B1.s0l M.same M.flatE at hb;unfold M.same M.flatE;simp only[Bool.and_eq_true]at hb⊢;obtain⟨⟨b0,b1,b2,b3,b4,b5,b6,b7,b8,b9,b10,b11,b12,b13,b14,b15,b16,b17,b18,b19,b20,b21,b22⟩,b23,b24⟩:=hb;refine⟨⟨?_,b1,b2,b3,b4,b5,b6,?_,b8,b9,b10,b11,b12,b13,b14,b15,b16,b17,b18,b19,b20,b21,b22⟩,b23,b24⟩
 · show(m.kind==1)=true
   rw[hk];rfl
 · show(m.plen==plenE (hdX m.cmd m.ver m.auth) (entryM m))=true
   rw[hp];simp
structure Wrt (l:List M):Prop where
  n1:1≤l.length
  r:∀ m∈l,rightB m=true
  n2:l.length≤most (at0 l 0)
  t:∀ i,0<i→i<l.length→tog (at0 l 0) (at0 l i)=true
theorem y0t (l:List M):((enc l).2.2≠0∧(enc l).1=⟨#[]⟩∧0≤(enc l).2.1∧(enc l).2.1≤(l.length:Int))∨(Wrt l∧enc l=(⟨(wrtL l).toArray⟩,0,0)):=by
 rcases bad_cases (ckW l) l.length with⟨k,h1,h2,h3,_⟩|⟨hw,_⟩
 · rw[g0d h1 h2 h3]
   exact .inl ⟨show(1:Int)≠0 by decide,rfl,Int.natCast_nonneg _,by show((k:Nat):Int)≤l.length;omega⟩
 by_cases h0:l.length=0
 · rw[q0e h0]
   exact .inl ⟨show(8:Int)≠0 by decide,rfl,Int.le_refl _,Int.natCast_nonneg _⟩
 rcases bad_cases (ckT l) l.length with⟨k,h1,h2,h3,_⟩|⟨ht,_⟩
 · rw[z0h hw h1 h2 h3]
   exact .inl ⟨h3,rfl,Int.natCast_nonneg _,by show((k:Nat):Int)≤l.length;omega⟩
 · refine .inr ⟨⟨by omega,c0i hw,?_,?_⟩,u0l hw h0 ht⟩
   · refine Decidable.byContradiction fun hn=>?_
     have:=ht (most (at0 l 0)) (by omega)
     rw[Tg.d0w rfl]at this
     exact absurd this (by decide)
   · intro i hi hl;have:=ht i hl;unfold ckT at this;by_cases hm:i=most (at0 l 0)
     · rw[if_pos hm]at this;exact absurd this (by decide)
     · rw[if_neg hm]at this;cases htg:tog (at0 l 0) (at0 l i)
       · rw[if_pos ⟨hi,htg⟩]at this;exact absurd this (by decide)
       · rfl
theorem n1a {m:M}(h:rightB m=true):(lineL m).length=20∧Ent.E.of (Ent.putE (entryM m))=entryM m∧(lineL m).take 2=Ent.layN m.family 2:=by
 have hk:=(v0h h true (fun _=>rfl)).1
 obtain⟨h1,h2⟩:=Ent.k0c _ hk
 refine⟨by unfold lineL;simpa using h1,h2,?_⟩
 unfold lineL Ent.putE;rw[if_pos hk]
 show(Ent.laidE (entryM m)).take 2=_
 unfold Ent.laidE
 have hf:Oct.fitsB (entryM m).fam 2=true:=by
  unfold Ent.okE at hk;simp only[Bool.and_eq_true]at hk;exact hk.1.1.1.1.1
 have:(Ent.layN (entryM m).fam 2).length=2:=(Ent.r0d _ 2 hf).2
 rw[List.take_append_of_le_length (by omega),List.take_of_length_le (by omega)]
 rfl
theorem chunks:∀ {l:List M},(∀ m∈l,(lineL m).length=20)→(l.flatMap lineL).length=20*l.length∧∀ i (hi:i<l.length),((l.flatMap lineL).drop (20*i)).take 20=lineL l[i]
  | [],_=>⟨rfl,fun i hi=>absurd hi (by simp)⟩
  | m::l,h=>by
    obtain⟨h1,h2⟩:=chunks (l:=l) (fun x hx=>h x (by simp[hx]))
    have hm:=h m (by simp)
    refine⟨by rw[List.flatMap_cons,List.length_append,h1,hm,List.length_cons];omega,fun i hi=>?_⟩
    rw[List.flatMap_cons]
    match i,hi with
    | 0,_=>rw[Nat.mul_zero,List.drop_zero,List.take_append_of_le_length (by omega),List.take_of_length_le (by omega)];rfl
    | i+1,hi=>
      rw[List.drop_append,List.drop_of_length_le (by omega),List.nil_append,hm,show 20*(i+1) - 20=20*i by omega]
      exact h2 i (by simpa using hi)
theorem r0s {n:Int}(h:isCmd n=true):∃ x:UInt8,Ent.layN n 1 = [x]∧n=(x.toNat:Int):=by
 rcases cmd_or h with rfl|rfl
 · exact⟨1,rfl,rfl⟩
 · exact⟨2,rfl,rfl⟩
theorem x1l {s:ByteArray}{n:Int}(hn:n=0∨n=2)(h:s.data.toList.take 2=Ent.layN n 2):AuR.isA s=false:=by
 have hs:AuR.starts s=false:=by
  unfold AuR.starts;rw[ByteArray.toList_eq,Ent.n0a,List.drop_zero,h]
  rcases hn with rfl|rfl<;>rfl
 unfold AuR.isA;rw[hs,Bool.and_false]
structure Says (b:ByteArray)(l:List M)(p0:Nat):Prop where
  hd:(hdAt b).2=0
  cn:(cnAt b).2=0
  m:hdM b=hdX (at0 l 0).cmd (at0 l 0).ver (at0 l 0).auth
  atp:atN b=p0
  size:b.size=p0+20*l.length
  p:p0=4∧(at0 l 0).auth.size=0∨p0=24∧(at0 l 0).auth.size=18
  e:∀ i,i<l.length→entP b (p0+20*i)=entryM (Es.at0 l i)
theorem v1o {b:ByteArray}{n:Nat}(h:b.size=4+20*n)(h1:1≤n)(h2:n≤25):(cnAt b).2=0:=by
 unfold cnAt
 rw[if_neg (by omega),if_neg (by omega),if_neg (by omega)]
theorem w1o {b:ByteArray}(h4:4≤b.size)(hc:isCmd (bt b 0)=true)(hv:isCmd (bt b 1)=true)(h2:bt b 2=0)(h3:bt b 3=0):(hdAt b).2=0:=by
 unfold hdAt
 rw[if_neg (by omega),hc,hv,l0n b h4,h2,h3]
 rfl
theorem auth_or {m:M}(h:authB m=true):m.auth.size=0∨m.auth.size=18∧m.ver=2:=by
 unfold authB at h;simp only[Bool.or_eq_true,Bool.and_eq_true,decide_eq_true_eq,beq_iff_eq]at h;exact h
theorem x0w {l:List M}(W:Wrt l):∃ p0,Says ⟨(wrtL l).toArray⟩ l p0:=by
 have h1:=W.n1
 have hf0:at0 l 0=l[0]:=m0d l 0 (by omega)
 have hrf:rightB (at0 l 0)=true:=by rw[hf0];exact W.r _ (List.getElem_mem _)
 obtain⟨hk,hb,hc,hv,ha,hr⟩:=f0f hrf;obtain⟨x0,e0,c0⟩:=r0s hc;obtain⟨x1,e1,c1⟩:=r0s hv
 have h20:∀ m∈l,(lineL m).length=20:=fun m hm=>(n1a (W.r m hm)).1
 obtain⟨hl,hch⟩:=chunks h20;have hm2:=W.n2;generalize hF:l.flatMap lineL=F at *
 have hL:(ByteArray.mk (wrtL l).toArray).data.toList=x0::x1::0::0::((AuR.putA (at0 l 0).auth).data.toList++F):=by
  show wrtL l=_
  unfold wrtL hdL;rw[e0,e1,hF];simp
 generalize hbb:ByteArray.mk (wrtL l).toArray=b at *
 have b0:bt b 0=(at0 l 0).cmd:=by unfold bt;rw[hL,c0];rfl
 have b1:bt b 1=(at0 l 0).ver:=by unfold bt;rw[hL,c1];rfl
 have b2:bt b 2=0:=by unfold bt;rw[hL];rfl
 have b3:bt b 3=0:=by unfold bt;rw[hL];rfl
 have hbs:b.size=4+((AuR.putA (at0 l 0).auth).size+20*l.length):=by
  have h:b.data.toList.length=b.size:=by simp
  have h':(AuR.putA (at0 l 0).auth).data.toList.length=(AuR.putA (at0 l 0).auth).size:=by simp
  rw[←h,hL];simp only[List.length_cons,List.length_append,hl,h'];omega
 have hx:(b.extract 4 24).data.toList=((AuR.putA (at0 l 0).auth).data.toList++F).take 20:=by rw[Ent.n0a,hL];rfl
 have hent:∀ p i,p=4+(AuR.putA (at0 l 0).auth).size→i<l.length→entP b (p+20*i)=entryM (at0 l i):=by
  intro p i hp hi;have hri:=W.r _ (List.getElem_mem hi);unfold entP
  have:b.extract (p+20*i) (p+20*i+20)=Ent.putE (entryM l[i]):=by
   apply Ent.k0a
   rw[Ent.n0a,hL,show p+20*i+20 - (p+20*i)=20 by omega]
   have hd:(x0::x1::0::0::((AuR.putA (at0 l 0).auth).data.toList++F)).drop (p+20*i)=F.drop (20*i):=by
    have h':(AuR.putA (at0 l 0).auth).data.toList.length=(AuR.putA (at0 l 0).auth).size:=by simp
    rw[show p+20*i=(20*i+(AuR.putA (at0 l 0).auth).size)+1+1+1+1 by omega]
    simp only[List.drop_succ_cons]
    rw[List.drop_append,List.drop_of_length_le (by omega),List.nil_append,h',show 20*i+(AuR.putA (at0 l 0).auth).size - (AuR.putA (at0 l 0).auth).size=20*i by omega]
   rw[hd,hch i hi];rfl
  rw[this,m0d l i hi];exact(n1a hri).2.1
 rcases auth_or ha with ha0|⟨ha8,hv2⟩
 · have hpe:AuR.putA (at0 l 0).auth=ByteArray.empty:=(AuR.q0n (by omega)).2
   have hes:(at0 l 0).auth=ByteArray.empty:=ByteArray.ext (Array.eq_empty_of_size_eq_zero ha0)
   have hps:(AuR.putA (at0 l 0).auth).size=0:=by rw[hpe];rfl
   have hmost:most (at0 l 0)=25:=by unfold most;rw[if_pos ha0]
   have hi:AuR.isA (b.extract 4 24)=false:=by
    refine x1l (v0h hrf true (fun _=>rfl)).2.2.2 ?_
    rw[hx,hpe]
    show(([]++F).take 20).take 2=_
    have:=hch 0 (by omega)
    rw[Nat.mul_zero,List.drop_zero]at this;rw[List.nil_append,this,←hf0];exact(n1a hrf).2.2
   have hs:says b=false:=by unfold says;rw[hi,Bool.and_false]
   refine⟨4,w1o (by omega) (b0▸hc) (b1▸hv) b2 b3,v1o (n:=l.length) (by omega) h1 (by omega),?_,?_,by omega,.inl ⟨rfl,ha0⟩,fun i hi=>hent 4 i (by omega) hi⟩
   · unfold hdM base;rw[hs,b0,b1,hes];rfl
   · unfold atN;rw[hs];rfl
 · obtain⟨_,hi1,hg⟩:=AuR.k0c ha8;have hps:(AuR.putA (at0 l 0).auth).size=20:=AuR.r0m hi1
   have hmost:most (at0 l 0)=24:=by unfold most;rw[if_neg (by omega)]
   have hpx:b.extract 4 24=AuR.putA (at0 l 0).auth:=by
    apply Ent.k0a
    have h':(AuR.putA (at0 l 0).auth).data.toList.length=(AuR.putA (at0 l 0).auth).size:=by simp
    rw[hx,List.take_append_of_le_length (by omega),List.take_of_length_le (by omega)]
   have hs:says b=true:=by unfold says;rw[hpx,hi1,b1,hv2];rfl
   refine⟨24,w1o (by omega) (b0▸hc) (b1▸hv) b2 b3,v1o (n:=l.length+1) (by omega) (by omega) (by omega),?_,?_,by omega,.inr ⟨rfl,ha8⟩,fun i hi=>hent 24 i (by omega) hi⟩
   · unfold hdM base;rw[hs,b0,b1,if_pos rfl,hpx,hg];rfl
   · unfold atN;rw[hs];rfl
theorem Wrt.heads {l:List M}(W:Wrt l){i:Nat}(hi:i<l.length):hdX (at0 l i).cmd (at0 l i).ver (at0 l i).auth=hdX (at0 l 0).cmd (at0 l 0).ver (at0 l 0).auth∧((at0 l i).family=0→l.length=1):=by
 by_cases h0:i=0
 · subst h0
   refine⟨rfl,fun hf=>?_⟩
   refine Decidable.byContradiction fun hn=>?_
   have:=W.t 1 (by omega) (by have:=W.n1;omega)
   unfold tog at this;simp only[Bool.and_eq_true,bne_iff_ne,ne_eq]at this;exact this.1 hf
 · have:=W.t i (by omega) hi
   unfold tog at this;simp only[Bool.and_eq_true,bne_iff_ne,ne_eq,beq_iff_eq]at this;obtain⟨_,h2,h3,h4,h5⟩:=this
   refine⟨?_,fun hf=>absurd hf h2⟩
   rw[←h3,←h4,←k1g h5]
theorem n0p {l:List M}(W:Wrt l):∃ l',out ⟨(wrtL l).toArray⟩=(l',0,0)∧All.sameL l l'=true∧l'.length=l.length∧Ap.Flat l':=by
 obtain⟨p0,S⟩:=x0w W;have h1:=W.n1;generalize ByteArray.mk (wrtL l).toArray=b at *
 have hp:p0=4∨p0=24:=by rcases S.p with h|h<;>omega
 have hcn:cntN b=l.length:=by unfold cntN;rw[S.atp,S.size];omega
 have hck:∀ i,i<l.length→ckE (hdM b) (entP b (p0+20*i)) (decide (p0+20=b.size))=0:=by
  intro i hi
  have hri:rightB (at0 l i)=true:=by rw[m0d l i hi];exact W.r _ (List.getElem_mem hi)
  obtain⟨q1,q2⟩:=W.heads hi;rw[S.e i hi,S.m,←q1]
  exact(v0h hri _ (fun hf=>by have:=q2 hf;have:=S.size;simp;omega)).2.1
 refine⟨rts (hdM b) b p0 l.length,?_,?_,q0g _ _ _ _,fun m hm=>by
  simp only[rts,List.mem_map]at hm;obtain⟨i,_,rfl⟩:=hm
  exact⟨show(hdM b).ll = [] by rw[S.m];rfl,show(hdM b).sl = [] by rw[S.m];rfl⟩⟩
 · unfold out
   rw[if_neg (by simpa using S.hd),if_neg (by simpa using S.cn),S.atp,if_neg (by have:=S.size;omega),hcn]
   exact a0f hck
 · refine All.s0g (q0g _ _ _ _).symm fun i hx hy=>?_
   have hri:=W.r _ (List.getElem_mem hx)
   have e:(rts (hdM b) b p0 l.length)[i]=routeM (hdM b) (entP b (p0+20*i)):=by simp[rts]
   obtain⟨q1,_⟩:=W.heads hx;rw[e,S.e i hx,S.m,←q1,m0d l i hx];exact n0z hri
theorem f1h {l:List M}(W:Wrt l):∃ p0,(wrtL l).length=p0+20*l.length∧(p0=4∧(at0 l 0).auth.size=0∧l.length≤25∨p0=24∧(at0 l 0).auth.size=18∧l.length≤24):=by
 obtain⟨p0,S⟩:=x0w W
 have hz:(ByteArray.mk (wrtL l).toArray).size=(wrtL l).length:=by show(wrtL l).toArray.size=_;simp
 refine⟨p0,by rw[←hz];exact S.size,?_⟩
 have:=W.n2;unfold most at this
 rcases S.p with⟨h1,h2⟩|⟨h1,h2⟩
 · rw[if_pos h2]at this;exact .inl ⟨h1,h2,this⟩
 · rw[if_neg (by omega)]at this;exact .inr ⟨h1,h2,this⟩
end Mb
namespace B2
open Ms Own
def r0j (m:M):Bool:=M.same m { k2 m with kind:=m.kind}
theorem l0g {m:M}(hk:m.kind=2):Bare.bareN m=r0j m:=by
 unfold Bare.bareN r0j;rw[(Bare.is_2 hk).1,(Bare.is_2 hk).2];rfl
theorem z0c (m:M)(w:World)(hk:m.kind=2)(hm:m.In w) :
    Calls Tryz.prog 77 #[.agg m.cells] w fun e w'=>e = .returned (.bool (r0j m))∧Below w.heap.size w w':=by
 rw[←l0g hk];exact Bare.z0c m w hm
end B2
namespace Rte
open Cur Oct Bk
theorem radd (s:ByteArray)(k:Nat)(h:k≤6)(hk:k<s.size) :
    ((numL (s.data.toList.take k):Nat):Int)*256+(s[k].toNat:Nat)=((numL (s.data.toList.take (k+1)):Nat):Int):=by
 rw[Cur.n0f s k hk,r0n];omega
theorem rnumber (s:ByteArray)(w:World)(hs:s.size≤7) :
    Calls Tryz.prog 126 #[.string s] w fun e w'=>e = .returned (.int .i64 (numL s.data.toList))∧w=w':=by
 go_in;go_wp2
 go_loop [3,4] (fun n i=>∃ k:Nat,k≤s.size∧i = .int .i64 k∧n = .int .i64 (numL (s.data.toList.take k))) (fun _ i=>s.size - (intOf i).toNat)
 case atStart=>exact⟨0,Nat.zero_le _,rfl,rfl⟩
 case round=>
  obtain⟨k,hk,rfl,rfl⟩:=hrel;by_cases hlt:k<s.size
  · have hr:=Lib.hid (radd s k (by omega) hlt)
    have hb:=c1c s k (by omega) (by omega)
    have hc:=s[k].toNat_lt
    have h7:k<7:=by omega
    go_wp2;go_round
    case rel=>exact⟨k+1,by omega,by go_num,congrArg (Value.int IntKind.i64) (by rw[←hr.out])⟩
    case measure=>simp[intOf];omega
  · refine' qzj
    exact⟨int_eq (by rw[List.take_of_length_le (by simp;omega)]),rfl⟩
theorem n0a (s:ByteArray)(a b:Nat):(s.extract a b).data.toList=(s.data.toList.drop a).take (b - a):=by
 simp[ByteArray.data_extract,List.extract_eq_take_drop]
theorem s1s (s:ByteArray)(a b:Nat)(w:World)(h:b - a≤7) :
    Calls Tryz.prog 126 #[.string (s.extract a b)] w fun e w'=>e = .returned (.int .i64 (numL ((s.data.toList.drop a).take (b - a))))∧w'=w:=by
 rw[←n0a]
 exact(rnumber _ _ (by simp;omega)).mono fun e w' ⟨h1,h2⟩=>⟨h1,h2.symm⟩
theorem sl_h (s:ByteArray)(j:Int)(hi:Nat)(hj:j=hi)(h2:hi≤s.size)(W:World) :
    (Instr.slice 9 (.string s) none (some (.int .i64 j)) none).run Tryz.prog W = .ok (.string (s.extract 0 hi)) W:=by
 subst hj
 have:=run_slice_string_h (P:=Tryz.prog) (t:=9) (s:=s) W Tryz.underlying9 .i64 (hi:Int) (by omega) (by omega)
 simpa using this
theorem sl_m (s:ByteArray)(i j:Int)(lo hi:Nat)(hi':i=lo)(hj:j=hi)(h1:lo≤hi)(h2:hi≤s.size)(W:World) :
    (Instr.slice 9 (.string s) (some (.int .i64 i)) (some (.int .i64 j)) none).run Tryz.prog W = .ok (.string (s.extract lo hi)) W:=by
 subst hi' hj;refine' qz5m
theorem sl_l (s:ByteArray)(i:Int)(lo hi:Nat)(hi':i=lo)(h1:lo≤s.size)(hs:s.size=hi)(W:World) :
    (Instr.slice 9 (.string s) (some (.int .i64 i)) none none).run Tryz.prog W = .ok (.string (s.extract lo hi)) W:=by
 subst hi' hs;refine' qz8u
theorem k0j (s:ByteArray)(w:World)(hs:s.size≤7) :
    Calls Tryz.prog 165 #[.string s] w fun e w'=>e = .returned (.int .i64 (numL s.data.toList))∧w=w':=by
 go_in;go_wp2
 go_loop [3,7] (fun n i=>∃ k:Nat,k≤s.size∧i = .int .i64 k∧n = .int .i64 (numL (s.data.toList.take k))) (fun _ i=>s.size - (intOf i).toNat)
 case atStart=>exact⟨0,Nat.zero_le _,rfl,rfl⟩
 case round=>
  obtain⟨k,hk,rfl,rfl⟩:=hrel;by_cases hlt:k<s.size
  · go_wp2;go_round
    case rel=>exact⟨k+1,by omega,by go_num,congrArg (Value.int IntKind.i64) (v0w s k (by omega) hlt)⟩
    case measure=>simp[intOf];omega
  · refine' qzj
    exact⟨int_eq (by rw[List.take_of_length_le (by simp;omega)]),rfl⟩
theorem a0u (s:ByteArray)(a b:Nat)(w:World)(h:b - a≤7) :
    Calls Tryz.prog 165 #[.string (s.extract a b)] w fun e w'=>e = .returned (.int .i64 (numL ((s.data.toList.drop a).take (b - a))))∧w'=w:=by
 rw[←n0a]
 exact(k0j _ _ (by simp;omega)).mono fun e w' ⟨h1,h2⟩=>⟨h1,h2.symm⟩
def E.of (s:ByteArray):E:=⟨numL ((s.data.toList.drop 18).take 1),numL ((s.data.toList.drop 16).take 2),s.extract 0 16,⟨#[]⟩,⟨#[]⟩,numL ((s.data.toList.drop 19).take 1)⟩
theorem p0u (s:ByteArray)(w:World)(hs:s.size=20) :
    Calls Tryz.prog 94 #[.string s] w fun e w'=>e = .returned (.tuple #[.agg (E.of s).cells,.bool true])∧Below w.heap.size w w':=by
 refine' qzd2;go_in;refine' qzcn;have h1:=Bk.new 59 w E.zero.cells;have hb:=(Below.refl w.heap.size w).alloc (Nat.le_refl _) (.cells E.zero.cells 59);change Code.wp _ _ _ _ (w.alloc (.cells E.zero.cells 59));generalize w.alloc _=W at *
 have s1:=sl_h s 16 16 rfl (by omega)
 have s2:=sl_m s 16 18 16 18 rfl rfl (by omega) (by omega)
 have s3:=sl_m s 18 19 18 19 rfl rfl (by omega) (by omega)
 have s4:=sl_l s 19 19 20 rfl (by omega) hs
 clear hs
 refine wp_region_still_tail 11 (by kernel_rfl) (by kernel_rfl) ?_
 simp only[List.take_succ_cons,List.take_zero,List.drop_succ_cons,List.drop_zero]
 repeat still_step
 still_call (a0u s 16 18 _ (by omega))
 repeat still_step
 still_call (a0u s 18 19 _ (by omega))
 repeat still_step
 still_call (a0u s 19 20 _ (by omega))
 repeat still_step
 refine wpStill_nil ?_;change wpList _ _ _ _ _ W.drew;replace h1:=h1.drew;replace hb:=hb.drew;generalize W.drew=V at *;clear s1 s2 s3 s4
 go_wp2_with (first|(refine d0a rfl 59 _ rfl (E.of s).cells (by kernel_rfl) ?_)|(refine a0a (b:=w.heap.size) shE rfl _ _ rfl rfl rfl h1 rfl rfl (E.one (E.of s)) ?_))
 refine bodyPost_ret (v := .tuple #[.agg (E.of s).cells,.bool true]) (m0a (ty:=59) rfl _ _ w.heap.size _ rfl (loadVarK shE (h1.put _) rfl) _ rfl) rfl ⟨rfl,below_setRow hb (Nat.le_refl _) _⟩
def layN (v:Int)(n:Nat):List UInt8:=if fitsB v n then be v.toNat n else []
theorem i0a (v:Int)(n:Nat):(layN v n).length≤n:=by unfold layN;split<;>simp[j0d]
theorem s0c (v:Int)(n:Nat)(ni:Int)(hni:ni=n)(h1:1≤n)(h7:n≤7)(w:World) :
    Calls Tryz.prog 195 #[.int .i64 v,.int .i64 ni] w fun e w'=>e = .returned (.tuple #[.string ⟨(layN v n).toArray⟩,.bool (fitsB v n)])∧Below w.heap.size w w':=by
 refine' qz5e
def okE (e:E):Bool:=decide (e.addr.size=16)&&decide (e.mask.size=0)&&decide (e.next.size=0)&&fitsB e.tag 2&&fitsB e.fam 1&&fitsB e.met 1
def putE (e:E):ByteArray:=if okE e then e.addr++ByteArray.mk (layN e.tag 2).toArray++ByteArray.mk (layN e.fam 1).toArray++ByteArray.mk (layN e.met 1).toArray else⟨#[]⟩
structure OkE (e:E):Prop where
  (addr:e.addr.size≤maxLen) (mask:e.mask.size≤maxLen) (next:e.next.size≤maxLen)
theorem r0p (e:E)(h:okE e=true):putE e=e.addr++ByteArray.mk (layN e.tag 2).toArray++ByteArray.mk (layN e.fam 1).toArray++ByteArray.mk (layN e.met 1).toArray:=by unfold putE;rw[if_pos h]
theorem i0s (e:E)(h:okE e=false):putE e=⟨#[]⟩:=by unfold putE;rw[h];rfl
theorem o1a (a:ByteArray)(h:a.size=0):a.toList = []:=by
 rw[ByteArray.toList_eq]
 have:a.data.toList.length=0:=by simpa using h
 exact List.length_eq_zero_iff.1 this
theorem not_nil (a:ByteArray)(h:¬a.size=0):¬a.toList = []:=by
 rw[ByteArray.toList_eq];intro e;apply h;have:=congrArg List.length e;simpa using this
end Rte
namespace Rte
open Cur Oct Bk
theorem t1q (e:E)(w:World)(he:OkE e) :
    Calls Tryz.prog 277 #[.agg e.cells] w fun r w'=>r = .returned (.bool (okE e))∧Below w.heap.size w w':=by
 obtain⟨m1,m2,m3⟩:=he;unfold maxLen at m1 m2 m3;have h0:=Bk.new 59 w e.cells;have b0:=(Below.refl w.heap.size w).alloc (Nat.le_refl _) (.cells e.cells 59);refine' qzi;generalize w.alloc _=W at *;have c0:=h0.cell 0 (.int .i64 e.fam) rfl;have c1:=h0.cell 1 (.int .i64 e.tag) rfl;have c2:=h0.cell 2 (.string e.addr) rfl;have c3:=h0.cell 3 (.string e.mask) rfl
 have c4:=h0.cell 4 (.string e.next) rfl
 have c5:=h0.cell 5 (.int .i64 e.met) rfl
 have hk:okE e=(decide (e.addr.size=16)&&decide (e.mask.size=0)&&decide (e.next.size=0)&&fitsB e.tag 2&&fitsB e.fam 1&&fitsB e.met 1):=rfl
 by_cases q1:e.addr.size=16;rotate_left
 · have HN:Hid (okE e=false):=Lib.hid (by rw[hk,decide_eq_false q1];simp)
   clear hk;refine' qzj;exact⟨Oct.g0a HN.out.symm,b0⟩
 by_cases q2:e.mask.size=0;rotate_left
 · have HN:Hid (okE e=false):=Lib.hid (by rw[hk,decide_eq_false q2];simp)
   have n1:=not_nil _ q2
   have n2:(e.mask.toList == [])=false:=by simpa using n1
   have n3:e.mask.toList.isEmpty=false:=by simpa using n1
   clear hk;refine' qzj;exact⟨Oct.g0a HN.out.symm,b0⟩
 by_cases q3:e.next.size=0
 rotate_left
 · have HN:Hid (okE e=false):=Lib.hid (by rw[hk,decide_eq_false q3];simp)
   have k1:=o1a _ q2;have n1:=not_nil _ q3
   have n2:(e.next.toList == [])=false:=by simpa using n1
   have n3:e.next.toList.isEmpty=false:=by simpa using n1
   clear hk;refine' qzj;exact⟨Oct.g0a HN.out.symm,b0⟩
 have k1:=o1a _ q2;have k2:=o1a _ q3;rw[decide_eq_true q1,decide_eq_true q2,decide_eq_true q3]at hk;simp only[Bool.true_and]at hk
 have P1:=Lib.hid (fun V=>k0b e.tag 2 V)
 have P2:=Lib.hid (fun V=>k0b e.fam 1 V)
 have P3:=Lib.hid (fun V=>k0b e.met 1 V)
 generalize fitsB e.tag 2=x1 at *;generalize fitsB e.fam 1=x2 at *;generalize fitsB e.met 1=x3 at *;have HK:=Lib.hid hk;clear hk;cases x1
 · refine' qz2h;refine' qzj;exact⟨Oct.g0a HK.out.symm,b0⟩
 cases x2
 · refine' qz2h;refine' qz54;refine' qzj;exact⟨Oct.g0a HK.out.symm,b0⟩
 refine' qz2h;refine' qz54;refine' qz7u;refine' qzj;exact⟨Oct.g0a HK.out.symm,b0⟩
theorem c0b (e:E)(w:World)(he:OkE e) :
    Calls Tryz.prog 227 #[.agg e.cells] w fun r w'=>r = .returned (.tuple #[.string (putE e),.bool (okE e)])∧Below w.heap.size w w':=by
 have h0:=Bk.new 59 w e.cells;have b0:=(Below.refl w.heap.size w).alloc (Nat.le_refl _) (.cells e.cells 59)
 have PF:=Lib.hid (fun V=>t1q e V he)
 have HL1:Hid ((ByteArray.mk (layN e.tag 2).toArray).size≤2):=by show(layN e.tag 2).toArray.size≤2;simpa using i0a e.tag 2
 have HL2:Hid ((ByteArray.mk (layN e.fam 1).toArray).size≤1):=by show(layN e.fam 1).toArray.size≤1;simpa using i0a e.fam 1
 have HL3:Hid ((ByteArray.mk (layN e.met 1).toArray).size≤1):=by show(layN e.met 1).toArray.size≤1;simpa using i0a e.met 1
 have P1:=Lib.hid (fun V=>s0c e.tag 2 2 rfl (by omega) (by omega) V)
 have P2:=Lib.hid (fun V=>s0c e.fam 1 1 rfl (by omega) (by omega) V)
 have P3:=Lib.hid (fun V=>s0c e.met 1 1 rfl (by omega) (by omega) V)
 have HY:=Lib.hid (r0p e);have HN:=Lib.hid (i0s e);generalize ByteArray.mk (layN e.tag 2).toArray=t1 at *;generalize ByteArray.mk (layN e.fam 1).toArray=t2 at *;generalize ByteArray.mk (layN e.met 1).toArray=t3 at *;generalize fitsB e.tag 2=x1 at P1;generalize fitsB e.fam 1=x2 at P2;generalize fitsB e.met 1=x3 at P3
 have HZ:Hid (okE e=true→e.addr.size=16):=Lib.hid (fun h=>by
  unfold okE at h;simp only[Bool.and_eq_true,decide_eq_true_eq]at h
  exact h.1.1.1.1.1)
 generalize okE e=k at *;refine' qzi;generalize w.alloc _=W at *
 go_wp2_with (first|(refine f0a (b:=w.heap.size) shE rfl _ rfl rfl h0 rfl ?_))
 refine(PF.out _).mono ?_;rintro r W1 ⟨rfl,hb⟩;have h1:=h0.below hb;have b1:=b0.trans (hb.mono b0.size);clear hb b0 h0;cases k
 · have hn:=Lib.hid (HN.out rfl);clear HN HY;refine' qz2w;exact⟨r0z hn.out.symm rfl,b1⟩
 have hz:=HZ.out rfl;have hy:=Lib.hid (HY.out rfl);clear HN HY HZ;have c1:=h1.cell 1 (.int .i64 e.tag) rfl;refine' qzh;rintro r W2 ⟨rfl,hb⟩;have h2:=h1.below hb;have b2:=b1.trans (hb.mono b1.size);clear hb b1 h1 c1;have c1:=h2.cell 0 (.int .i64 e.fam) rfl;refine' qzt;rintro r W3 ⟨rfl,hb⟩;have h3:=h2.below hb;have b3:=b2.trans (hb.mono b2.size);clear hb b2 h2 c1;have c1:=h3.cell 5 (.int .i64 e.met) rfl;refine' qz25;rintro r W4 ⟨rfl,hb⟩;have h4:=h3.below hb;have b4:=b3.trans (hb.mono b3.size);clear hb b3 h3 c1;have c2:=h4.cell 2 (.string e.addr) rfl;have l1:=HL1.out;have l2:=HL2.out;have l3:=HL3.out;clear HL1 HL2 HL3;refine' qz2w;exact⟨r0z hy.out.symm rfl,b4⟩
end Rte
namespace Rte
open Cur Oct Bk
theorem a0i (l:List UInt8):∀ n:Nat,l.foldl (fun n c=>n*256+c.toNat) n=n*256 ^ l.length+numL l:=by
 refine' qzdb
theorem f0i (c:UInt8)(l:List UInt8):numL (c::l)=c.toNat*256 ^ l.length+numL l:=by
 unfold numL;rw[List.foldl_cons,a0i,Nat.zero_mul,Nat.zero_add];rfl
theorem s0h (n:Nat):∀ k,numL (be n k)=n%pw k:=by
 refine' qz3s
theorem f0k:∀ {a b:List UInt8},a.length=b.length→numL a=numL b→a=b:=by
 intro a
 induction a with
 | nil=>intro b h _;cases b with
  | nil=>rfl
  | cons _ _=>simp at h
 | cons c a ih=>
  intro b h e
  cases b with
  | nil=>simp at h
  | cons d b=>
   have hl:a.length=b.length:=by simpa using h
   rw[f0i,f0i,hl]at e;have h1:=r0h a;have h2:=r0h b;rw[hl]at h1
   have hp:0<256 ^ b.length:=Nat.pow_pos (by decide)
   have hq:=congrArg (· / 256 ^ b.length) e;simp only[Nat.mul_comm _ (256 ^ b.length),Nat.mul_add_div hp,Nat.div_eq_of_lt h1,Nat.div_eq_of_lt h2,Nat.add_zero]at hq;have hc:c=d:=UInt8.toNat_inj.1 hq;subst hc
   rw[ih hl (by omega)]
theorem k0m (l:List UInt8)(k:Nat)(h:l.length=k):be (numL l) k=l:=by
 refine f0k (by rw[j0d,h]) ?_
 rw[s0h,Nat.mod_eq_of_lt];have:=r0h l;rw[h]at this;exact this
theorem b0e (l:List UInt8)(k:Nat)(h:l.length=k)(h1:1≤k)(h7:k≤7):fitsB (numL l) k=true∧layN (numL l) k=l:=by
 refine' qz60;unfold layN;rw[if_pos hf,Int.toNat_natCast,k0m l k h]
theorem r0d (v:Int)(k:Nat)(hf:fitsB v k=true):((numL (layN v k):Nat):Int)=v∧(layN v k).length=k:=by
 obtain⟨_,_,h0,h1⟩:=(e0b v k).1 hf;unfold layN;rw[if_pos hf,s0h,j0d];obtain⟨n,rfl⟩:=Int.eq_ofNat_of_zero_le h0
 have:n<pw k:=by simpa using h1
 rw[Int.toNat_natCast,Nat.mod_eq_of_lt this];exact⟨rfl,rfl⟩
theorem k0a {a b:ByteArray}(h:a.data.toList=b.data.toList):a=b:=ByteArray.ext (Array.toList_inj.1 h)
theorem u0t:∀ l:List UInt8,l.length=20→l.take 16++((l.drop 16).take 2++((l.drop 18).take 1++(l.drop 19).take 1))=l:=by
 intro l h
 match l,h with
 | [a0,a1,a2,a3,a4,a5,a6,a7,a8,a9,a10,a11,a12,a13,a14,a15,a16,a17,a18,a19],_=>rfl
theorem x0q (x1 x2 x3 x4:List UInt8)(h1:x1.length=16)(h2:x2.length=2)(h3:x3.length=1)(h4:x4.length=1) :
    (x1++(x2++(x3++x4))).length=20∧(x1++(x2++(x3++x4))).take 16=x1∧((x1++(x2++(x3++x4))).drop 16).take 2=x2∧
    ((x1++(x2++(x3++x4))).drop 18).take 1=x3∧((x1++(x2++(x3++x4))).drop 19).take 1=x4:=by
 match x1,h1,x2,h2,x3,h3,x4,h4 with
 | [a0,a1,a2,a3,a4,a5,a6,a7,a8,a9,a10,a11,a12,a13,a14,a15],_,[b0,b1],_,[c0],_,[d0],_=>exact⟨rfl,rfl,rfl,rfl,rfl⟩
theorem e0y (e:E)(h:okE e=true):(putE e).data.toList=e.addr.data.toList++(layN e.tag 2++(layN e.fam 1++layN e.met 1)):=by
 rw[r0p e h];simp[ByteArray.data_append]
theorem c0a (a:ByteArray):a.data.toList.length=a.size:=by simp
theorem b0y (e:E)(h:okE e=true):e.addr.size=16∧e.mask.size=0∧e.next.size=0∧fitsB e.tag 2=true∧fitsB e.fam 1=true∧fitsB e.met 1=true:=by
 unfold okE at h;refine' qzcs;obtain⟨⟨⟨⟨⟨h1,h2⟩,h3⟩,h4⟩,h5⟩,h6⟩:=h;exact⟨h1,h2,h3,h4,h5,h6⟩
theorem g1j {e:E}(h1:e.addr.size=16)(h2:e.mask.size=0)(h3:e.next.size=0)(h4:fitsB e.tag 2=true)(h5:fitsB e.fam 1=true)(h6:fitsB e.met 1=true):okE e=true:=by
 unfold okE;rw[decide_eq_true h1,decide_eq_true h2,decide_eq_true h3,h4,h5,h6];rfl
theorem w0q {a:ByteArray}(h:a.size=0):(⟨#[]⟩:ByteArray)=a:=k0a (List.length_eq_zero_iff.1 (by rw[c0a];exact h)).symm
theorem z0t (s:ByteArray)(h:s.size=20):okE (E.of s)=true∧putE (E.of s)=s:=by
 have hl:s.data.toList.length=20:=by simpa using h
 obtain⟨f1,l1⟩:=b0e ((s.data.toList.drop 16).take 2) 2 (by simp;omega) (by omega) (by omega)
 obtain⟨f2,l2⟩:=b0e ((s.data.toList.drop 18).take 1) 1 (by simp;omega) (by omega) (by omega)
 obtain⟨f3,l3⟩:=b0e ((s.data.toList.drop 19).take 1) 1 (by simp;omega) (by omega) (by omega)
 have z:(s.extract 0 16).size=16:=by simp;omega
 have hk:okE (E.of s)=true:=g1j z rfl rfl f1 f2 f3;refine⟨hk,k0a ?_⟩;rw[e0y _ hk]
 show(s.extract 0 16).data.toList++(layN (numL ((s.data.toList.drop 16).take 2):Nat) 2++(layN (numL ((s.data.toList.drop 18).take 1):Nat) 1++layN (numL ((s.data.toList.drop 19).take 1):Nat) 1))=_
 rw[l1,l2,l3,n0a];exact u0t _ hl
theorem k0c (e:E)(h:okE e=true):(putE e).size=20∧E.of (putE e)=e:=by
 obtain⟨z1,z2,z3,f1,f2,f3⟩:=b0y e h;obtain⟨n1,k1⟩:=r0d e.tag 2 f1;obtain⟨n2,k2⟩:=r0d e.fam 1 f2;obtain⟨n3,k3⟩:=r0d e.met 1 f3
 obtain⟨q0,q1,q2,q3,q4⟩:=x0q e.addr.data.toList (layN e.tag 2) (layN e.fam 1) (layN e.met 1) (by rw[c0a];exact z1) k1 k2 k3
 have hd:=e0y e h
 refine⟨by rw[←c0a,hd];exact q0,?_⟩
 unfold E.of
 have x1:(putE e).extract 0 16=e.addr:=k0a (by rw[n0a,hd];exact q1)
 rw[x1,hd,q2,q3,q4,n1,n2,n3,w0q z2]
 obtain⟨fam,tag,addr,mask,next,met⟩:=e
 have:next=mask:=(w0q z3).symm.trans (w0q z2)
 rw[this]
end Rte
end Go.Proofs.YtllhobicfclheaaGreatDoor

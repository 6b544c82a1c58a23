/-
  A part of a proof. No conditions.
-/
import Derived.Test.YtllhobicfclheaaGreatDoorY09
namespace Go.Proofs.YtllhobicfclheaaGreatDoor
open Go.ChangeShapes Go.WideShapes Go.ChangeAt Go.RowKit
set_option linter.unusedVariables false
set_option maxRecDepth 100000
set_option maxHeartbeats 51200000
namespace Ma
open Ms Rp Ps Es
open Own (k1)
open Bk (E)
open Ck (E4)
open Wr (cmd_or t0k e0g)
def hdX (cmd ver:Int)(au:ByteArray):M:={ M.zero with kind:=1,cmd:=cmd,ver:=ver,auth:=au}
structure Fit (e:E):Prop where
  (a:e.addr.size=4) (m:e.mask.size=4) (n:e.next.size=4) (f0:0≤e.fam) (f1:e.fam≤65535) (t0:0≤e.tag) (t1:e.tag≤65535)
theorem v0x (l:List UInt8)(h:l.length=2):(Cur.numL l:Int)≤65535:=by
 match l,h with
 | [a,b],_=>
  have ha:=a.toNat_lt;have hb:=b.toNat_lt
  have:Cur.numL [a,b]=a.toNat*256+b.toNat:=by simp[Cur.numL]
  rw[this];omega
theorem g0v (s:ByteArray)(h:s.size=20):Fit (Ent.E.of s):=by
 have hl:s.data.toList.length=20:=by simpa using h
 have h4:=Ck.ent4 s h
 exact⟨h4.a,h4.m,h4.n,Int.natCast_nonneg _,v0x _ (by simp;omega),Int.natCast_nonneg _,v0x _ (by simp;omega)⟩
theorem d0j (cmd ver:Int)(au:ByteArray)(e:E):B1.s0l (routeM (hdX cmd ver au) e)=true:=by
 unfold B1.s0l M.same M.flatE;simp[routeM,hdX,k1,M.zero]
theorem b1j {s:ByteArray}(h:Mask.isMask s=true):Mask.ofB ((Mask.plenN s:Nat):Int)=s:=by
 have hp:Mask.plenN s=Mask.lenOf s:=by unfold Mask.plenN;rw[if_pos h]
 rw[hp,(Mask.x0t _ (Mask.a0w s)).1];unfold Mask.isMask at h;simpa using h
theorem h0y {e:E}(h:ckMet e=0):isMet e.met=true:=by
 unfold ckMet at h;cases hm:isMet e.met
 · rw[hm]at h;simp at h
 · rfl
theorem r1g {cmd ver:Int}{au:ByteArray}{e:E}{al:Bool}(hc:isCmd cmd=true)(hv:isCmd ver=true)(ha:authB (hdX cmd ver au)=true)(hf:Fit e)(h:ckE (hdX cmd ver au) e al=0) :
    rightB (routeM (hdX cmd ver au) e)=true∧entryM (routeM (hdX cmd ver au) e)=e∧(e.fam=0→al=true):=by
 have hd:headB (routeM (hdX cmd ver au) e)=true:=by
  have:authB (routeM (hdX cmd ver au) e)=authB (hdX cmd ver au):=rfl;unfold headB;rw[this,ha]
  show(isCmd cmd&&(isCmd ver&&true))=true
  rw[hc,hv];rfl
 have hr:routeB (routeM (hdX cmd ver au) e)=true→rightB (routeM (hdX cmd ver au) e)=true:=by
  intro hr;unfold rightB;rw[d0j,hd,hr];rfl
 unfold ckE at h;by_cases f0:e.fam=0
 · rw[if_pos f0]at h;unfold ck0 at h;cases hx:(al&&(isN e.mask&&rightB (routeM (hdX cmd ver au) e)))
   · rw[hx]at h;simp at h
   · simp only[Bool.and_eq_true]at hx
     refine⟨hx.2.2,?_,fun _=>hx.1⟩
     have hm:=(q0h _).1 hx.2.1
     have hk:maskM (routeM (hdX cmd ver au) e)=e.mask:=by
      rw[hm];unfold maskM;rw[if_neg];intro hh;have:e.fam=2:=hh.1;omega
     unfold entryM;rw[hk];rfl
 rw[if_neg f0]at h;by_cases f2:e.fam=2
 · rw[if_pos f2]at h;by_cases v1:ver=1
   · rw[if_pos (show(hdX cmd ver au).ver=1 from v1)]at h
     unfold ck1 at h
     cases hx:(e.tag==0&&(isN e.mask&&isN e.next))
     · rw[hx]at h;simp at h
     · rw[hx,if_pos rfl]at h;have hm:=h0y h;simp only[Bool.and_eq_true]at hx
       refine⟨hr ?_,?_,fun h0=>absurd h0 f0⟩
       · unfold routeB
         rw[if_neg (show ¬(routeM (hdX cmd ver au) e).family=0 from f0),if_pos (show(routeM (hdX cmd ver au) e).family=2 from f2),if_pos (show(routeM (hdX cmd ver au) e).ver=1 from v1)]
         unfold oneB
         have hp:plenE (hdX cmd ver au) e=32:=by unfold plenE;rw[if_neg f0,if_pos (show(hdX cmd ver au).ver=1 from v1)]
         show(isMet e.met&&(e.tag==0&&(plenE (hdX cmd ver au) e==32&&(decide (e.addr.size=4)&&isN e.next))))=true
         rw[hm,hx.1,hp,hx.2.2,hf.a];rfl
       · have hk:maskM (routeM (hdX cmd ver au) e)=e.mask:=by
          rw[(q0h _).1 hx.2.1];unfold maskM;rw[if_neg];intro hh;have:ver=2:=hh.2;omega
         unfold entryM;rw[hk];rfl
   · rw[if_neg (show ¬(hdX cmd ver au).ver=1 from v1)]at h
     have v2:ver=2:=by rcases cmd_or hv with h|h<;>omega
     unfold ck2 at h;cases hx:(Mask.isMask e.mask&&Pre.rightZ e.addr ((Mask.plenN e.mask:Nat):Int))
     · rw[hx]at h;simp at h
     · rw[hx,if_pos rfl]at h;have hm:=h0y h;simp only[Bool.and_eq_true]at hx
       have hp:plenE (hdX cmd ver au) e=((Mask.plenN e.mask:Nat):Int):=by unfold plenE;rw[if_neg f0,if_neg (show ¬(hdX cmd ver au).ver=1 from v1)]
       refine⟨hr ?_,?_,fun h0=>absurd h0 f0⟩
       · unfold routeB
         rw[if_neg (show ¬(routeM (hdX cmd ver au) e).family=0 from f0),if_pos (show(routeM (hdX cmd ver au) e).family=2 from f2),if_neg (show ¬(routeM (hdX cmd ver au) e).ver=1 from v1)]
         unfold twoB
         show(isMet e.met&&(Oct.fitsB e.tag 2&&(decide (e.addr.size=4)&&(Pre.rightZ e.addr (plenE (hdX cmd ver au) e)&&decide (e.next.size=4)))))=true
         rw[hm,Rn.x0r,decide_eq_true hf.t0,decide_eq_true hf.t1,hp,hx.2,hf.a,hf.n];rfl
       · have hk:maskM (routeM (hdX cmd ver au) e)=e.mask:=by
          unfold maskM;rw[if_pos ⟨f2,v2⟩]
          show Mask.ofB (plenE (hdX cmd ver au) e)=e.mask
          rw[hp,b1j hx.1]
         unfold entryM;rw[hk];rfl
 · rw[if_neg f2]at h;simp at h
theorem bad_cases (f:Nat→Int)(n:Nat):(∃ k,k<n∧(∀ i,i<k→f i=0)∧f k≠0∧bad f n=some k)∨((∀ i,i<n→f i=0)∧bad f n=none):=by
 have first:(∃ k,k<n∧(∀ i,i<k→f i=0)∧f k≠0)∨(∀ i,i<n→f i=0):=by
  refine' qzdc
 rcases first with⟨k,h1,h2,h3⟩|h
 · exact .inl ⟨k,h1,h2,h3,j0e h1 h2 h3⟩
 · exact .inr ⟨h,d0d h⟩
theorem a1i (h:M)(b:ByteArray)(p n:Nat)(al:Bool)(hb:b.size=p+20*n):(ents h b p n al).2.2≠0→(ents h b p n al).1 = []∧0≤(ents h b p n al).2.1∧(ents h b p n al).2.1≤b.size:=by
 intro hn
 rcases bad_cases (fun i=>ckE h (entP b (p+20*i)) al) n with⟨k,h1,h2,h3,h4⟩|⟨h1,h2⟩
 · have:ents h b p n al=([],((p+20*k:Nat):Int),ckE h (entP b (p+20*k)) al):=by unfold ents;rw[h4]
   rw[this]
   exact⟨rfl,Int.natCast_nonneg _,by show((p+20*k:Nat):Int)≤b.size;omega⟩
 · exfalso;apply hn;unfold ents;rw[h2]
theorem r1n (b:ByteArray)(h:(out b).2.2≠0):(out b).1 = []∧0≤(out b).2.1∧(out b).2.1≤b.size:=by
 unfold out at h⊢;by_cases h1:(hdAt b).2=0
 · rw[if_neg (by simpa using h1)]at h⊢
   by_cases h2:(cnAt b).2=0
   · rw[if_neg (by simpa using h2)]at h⊢
     by_cases h3:atN b=b.size
     · rw[if_pos h3];exact⟨rfl,Int.natCast_nonneg _,Int.le_refl _⟩
     · rw[if_neg h3]at h⊢;obtain⟨h4,_⟩:=z0p h1;obtain⟨n,n1,n2,hn⟩:=p1g h2 h4;have:=l0z b
       exact a1i _ _ _ _ _ (by unfold cntN;omega) h
   · rw[if_pos h2];obtain⟨h4,_⟩:=z0p h1;refine⟨rfl,?_,?_⟩
     · show 0≤(cnAt b).1
       unfold cnAt
       split<;>(try split)<;>(try split)<;>simp
     · show(cnAt b).1≤b.size
       unfold cnAt;split
       · simp
       split
       · simp
       split
       · show(504:Int)≤b.size;omega
       · simp
 · rw[if_pos h1];refine⟨rfl,?_,?_⟩
   · show 0≤(hdAt b).1
     unfold hdAt
     split<;>(try split)<;>(try split)<;>(try split)<;>simp
   · show(hdAt b).1≤b.size
     unfold hdAt;by_cases q:b.size<4
     · rw[if_pos q];simp
     rw[if_neg q];split
     · simp
     split
     · show(1:Int)≤b.size;omega
     split
     · show(2:Int)≤b.size;omega
     · simp
theorem l0n (b:ByteArray)(h:4≤b.size):Oct.zeroB (b.extract 2 4).data.toList=(bt b 2==0&&bt b 3==0):=by
 have h2:2<b.size:=by omega
 have h3:3<b.size:=by omega
 refine' qz81;unfold Oct.zeroB
 have q:∀ c:UInt8,(c==0)=((c.toNat:Int)==0):=fun c=>by
  rw[Bool.eq_iff_iff,beq_iff_eq,beq_iff_eq,←UInt8.toNat_inj]
  show c.toNat=0↔_
  omega
 simp[q]
structure Good (b:ByteArray)(n p0:Nat)(au:ByteArray):Prop where
  hd:hdM b=hdX (bt b 0) (bt b 1) au
  at0:atN b=p0
  size:b.size=p0+20*n
  n1:1≤n
  n2:n≤most (hdM b)
  c:isCmd (bt b 0)=true
  v:isCmd (bt b 1)=true
  z2:bt b 2=0
  z3:bt b 3=0
  auth:(p0=4∧au=⟨#[]⟩∧says b=false)∨(p0=24∧au=AuR.getA (b.extract 4 24)∧says b=true)
  ck:∀ i,i<n→ckE (hdM b) (entP b (p0+20*i)) (decide (p0+20=b.size))=0
  out:out b=(rts (hdM b) b p0 n,0,0)
theorem g0t {s:ByteArray}(h:AuR.isA s=true):(AuR.getA s).size=18:=by
 have hz:=AuR.r0m h;unfold AuR.getA;rw[if_pos h,ByteArray.size_extract];omega
theorem d0f {b:ByteArray}(h:(out b).2.2=0):∃ n p0 au,Good b n p0 au:=by
 have ho:out b=out b:=rfl;unfold out at h;by_cases h1:(hdAt b).2=0;rotate_left
 · rw[if_pos h1]at h;exact absurd h h1
 rw[if_neg (by simpa using h1)]at h
 by_cases h2:(cnAt b).2=0;rotate_left
 · rw[if_pos h2]at h;exact absurd h h2
 rw[if_neg (by simpa using h2)]at h
 by_cases h3:atN b=b.size
 · rw[if_pos h3]at h;simp at h
 rw[if_neg h3]at h;obtain⟨h4,hc,hv,hz⟩:=z0p h1;obtain⟨n,n1,n2,hn⟩:=p1g h2 h4;rw[l0n b h4,Bool.and_eq_true,beq_iff_eq,beq_iff_eq]at hz;have hor:=l0z b
 have hsz:b.size=atN b+20*cntN b:=by unfold cntN;omega
 have hout:ents (hdM b) b (atN b) (cntN b) (decide (atN b+20=b.size))=(rts (hdM b) b (atN b) (cntN b),0,0)∧∀ i,i<cntN b→ckE (hdM b) (entP b (atN b+20*i)) (decide (atN b+20=b.size))=0:=by
  rcases bad_cases (fun i=>ckE (hdM b) (entP b (atN b+20*i)) (decide (atN b+20=b.size))) (cntN b)with⟨k,q1,q2,q3,q4⟩|⟨q1,q2⟩
  · exfalso;apply q3
    have:ents (hdM b) b (atN b) (cntN b) (decide (atN b+20=b.size))=([],((atN b+20*k:Nat):Int),ckE (hdM b) (entP b (atN b+20*k)) (decide (atN b+20=b.size))):=by unfold ents;rw[q4]
    rw[this]at h;exact h
  · exact⟨a0f q1,q1⟩
 have hO:out b=(rts (hdM b) b (atN b) (cntN b),0,0):=by
  unfold out
  rw[if_neg (by simpa using h1),if_neg (by simpa using h2),if_neg h3,hout.1]
 cases hs:says b
 · have ha:atN b=4:=by unfold atN;rw[hs];rfl
   refine⟨cntN b,4,⟨#[]⟩,?_,ha,by omega,by omega,?_,hc,hv,hz.1,hz.2,.inl ⟨rfl,rfl,hs⟩,by rw[←ha];exact hout.2,by rw[←ha];exact hO⟩
   · unfold hdM;rw[hs];rfl
   · have:most (hdM b)=25:=by unfold hdM;rw[hs];rfl
     omega
 · have ha:atN b=24:=by unfold atN;rw[hs];rfl
   have hi:AuR.isA (b.extract 4 24)=true:=by unfold says at hs;simp only[Bool.and_eq_true]at hs;exact hs.2
   refine⟨cntN b,24,AuR.getA (b.extract 4 24),?_,ha,by omega,by omega,?_,hc,hv,hz.1,hz.2,.inr ⟨rfl,rfl,hs⟩,by rw[←ha];exact hout.2,by rw[←ha];exact hO⟩
   · unfold hdM;rw[hs];rfl
   · have:most (hdM b)=24:=by
      unfold hdM;rw[hs];unfold most;rw[if_neg]
      show ¬(AuR.getA (b.extract 4 24)).size=0
      rw[g0t hi];omega
     omega
theorem Good.authB {b:ByteArray}{n p0:Nat}{au:ByteArray}(g:Good b n p0 au):Rp.authB (hdX (bt b 0) (bt b 1) au)=true:=by
 unfold Rp.authB
 rcases g.auth with⟨_,rfl,_⟩|⟨_,rfl,hs⟩
 · rfl
 · unfold says at hs;simp only[Bool.and_eq_true]at hs
   show(decide ((AuR.getA (b.extract 4 24)).size=0)||(decide ((AuR.getA (b.extract 4 24)).size=18)&&bt b 1==2))=true
   rw[g0t hs.2,hs.1];rfl
theorem Good.fit {b:ByteArray}{n p0:Nat}{au:ByteArray}(g:Good b n p0 au){i:Nat}(hi:i<n):Fit (entP b (p0+20*i)):=by
 refine g0v _ ?_;rw[ByteArray.size_extract];have:=g.size;omega
theorem Good.ent {b:ByteArray}{n p0:Nat}{au:ByteArray}(g:Good b n p0 au){i:Nat}(hi:i<n) :
    rightB (routeM (hdM b) (entP b (p0+20*i)))=true∧entryM (routeM (hdM b) (entP b (p0+20*i)))=entP b (p0+20*i)∧((entP b (p0+20*i)).fam=0→n=1):=by
 have hc:=g.ck i hi;rw[g.hd]at hc⊢;obtain⟨h1,h2,h3⟩:=r1g g.c g.v g.authB (g.fit hi) hc
 refine⟨h1,h2,fun h=>?_⟩
 have:=h3 h;simp only[decide_eq_true_eq]at this;have:=g.size;omega
theorem f1a (h:M)(b:ByteArray)(p n i:Nat)(hi:i<n):Es.at0 (rts h b p n) i=routeM h (entP b (p+20*i)):=by
 rw[m0d _ _ (by rw[q0g];exact hi)]
 simp[rts]
theorem i0o (L:List UInt8):∀ k,(List.range k).flatMap (fun i=>(L.drop (20*i)).take 20)=L.take (20*k)
  | 0=>by simp
  | k+1=>by
    rw[List.range_succ,List.flatMap_append,i0o L k,show 20*(k+1)=20*k+20 by omega,List.take_add]
    simp
theorem m0m {α β:Type}{f g:α→List β}:∀ {l:List α},(∀ x∈l,f x=g x)→l.flatMap f=l.flatMap g
  | [],_=>rfl
  | x::l,h=>by
    rw[List.flatMap_cons,List.flatMap_cons,h x (by simp),m0m (l:=l) (fun y hy=>h y (by simp[hy]))]
theorem e1s (L:List UInt8)(h:4≤L.length):∃ x0 x1 x2 x3 r,L=x0::x1::x2::x3::r:=by
 match L,h with
 | x0::x1::x2::x3::r,_=>exact⟨x0,x1,x2,x3,r,rfl⟩
theorem i0x {n:Int}{x:UInt8}(h:isCmd n=true)(hx:n=(x.toNat:Int)):Ent.layN n 1 = [x]:=by
 rcases cmd_or h with rfl|rfl
 · have:x=1:=UInt8.toNat_inj.1 (show x.toNat=1 by omega)
   subst this;rfl
 · have:x=2:=UInt8.toNat_inj.1 (show x.toNat=2 by omega)
   subst this;rfl
theorem Good.head {b:ByteArray}{n p0:Nat}{au:ByteArray}(g:Good b n p0 au):hdL (hdX (bt b 0) (bt b 1) au)=b.data.toList.take p0:=by
 have hl:b.data.toList.length=b.size:=by simp
 have hsz:=g.size
 have hp:4≤p0:=by rcases g.auth with⟨h,_⟩|⟨h,_⟩<;>omega
 obtain⟨x0,x1,x2,x3,r,hL⟩:=e1s b.data.toList (by omega)
 have e0:bt b 0=(x0.toNat:Int):=by unfold bt;rw[hL];rfl
 have e1:bt b 1=(x1.toNat:Int):=by unfold bt;rw[hL];rfl
 have e2:bt b 2=(x2.toNat:Int):=by unfold bt;rw[hL];rfl
 have e3:bt b 3=(x3.toNat:Int):=by unfold bt;rw[hL];rfl
 have y2:x2=0:=UInt8.toNat_inj.1 (show x2.toNat=0 by have:=g.z2;omega)
 have y3:x3=0:=UInt8.toNat_inj.1 (show x3.toNat=0 by have:=g.z3;omega)
 have hh:hdL (hdX (bt b 0) (bt b 1) au)=b.data.toList.take 4++(AuR.putA au).data.toList:=by
  unfold hdL
  show Ent.layN (bt b 0) 1++(Ent.layN (bt b 1) 1++([0,0]++(AuR.putA au).data.toList))=_
  rw[i0x g.c e0,i0x g.v e1,hL,y2,y3];rfl
 rw[hh]
 rcases g.auth with⟨rfl,rfl,_⟩|⟨rfl,rfl,hs⟩
 · have:(AuR.putA ⟨#[]⟩).data.toList = []:=by unfold AuR.putA;rw[if_neg (by decide)];rfl
   rw[this,List.append_nil]
 · unfold says at hs;simp only[Bool.and_eq_true]at hs
   rw[(AuR.d0s hs.2).2,Ent.n0a,show 24=4+20 from rfl,List.take_add]
theorem Good.line {b:ByteArray}{n p0:Nat}{au:ByteArray}(g:Good b n p0 au){i:Nat}(hi:i<n):lineL (routeM (hdM b) (entP b (p0+20*i)))=((b.data.toList.drop p0).drop (20*i)).take 20:=by
 unfold lineL;rw[(g.ent hi).2.1]
 have hz:(b.extract (p0+20*i) (p0+20*i+20)).size=20:=by
  rw[ByteArray.size_extract];have:=g.size;omega
 unfold entP
 rw[(Ent.z0t _ hz).2,Ent.n0a,List.drop_drop,show p0+20*i+20 - (p0+20*i)=20 by omega]
theorem Good.back {b:ByteArray}{n p0:Nat}{au:ByteArray}(g:Good b n p0 au):enc (rts (hdM b) b p0 n)=(b,0,0):=by
 have hlen:=q0g (hdM b) b p0 n;have hn1:=g.n1
 have f0:=f1a (hdM b) b p0 n 0 (by omega)
 have hw:∀ i,i<(rts (hdM b) b p0 n).length→ckW (rts (hdM b) b p0 n) i=0:=by
  intro i hi;rw[hlen]at hi;rw[u0j,f1a _ _ _ _ _ hi];exact(g.ent hi).1
 have ht:∀ i,i<(rts (hdM b) b p0 n).length→ckT (rts (hdM b) b p0 n) i=0:=by
  intro i hi;rw[hlen]at hi;unfold ckT
  have hm:most (Es.at0 (rts (hdM b) b p0 n) 0)=most (hdM b):=by rw[f0];rfl
  rw[if_neg (by rw[hm];have:=g.n2;omega),if_neg]
  rintro⟨h0,htg⟩;rw[f0,f1a _ _ _ _ _ hi]at htg
  have a0:(entP b (p0+20*0)).fam≠0:=fun h=>by have:=(g.ent (i:=0) (by omega)).2.2 h;omega
  have ai:(entP b (p0+20*i)).fam≠0:=fun h=>by have:=(g.ent hi).2.2 h;omega
  have:tog (routeM (hdM b) (entP b (p0+20*0))) (routeM (hdM b) (entP b (p0+20*i)))=true:=by
   unfold tog
   show((entP b (p0+20*0)).fam != 0&&((entP b (p0+20*i)).fam != 0&&((hdM b).cmd==(hdM b).cmd&&((hdM b).ver==(hdM b).ver&&(hdM b).auth.toList==(hdM b).auth.toList))))=true
   simp[ai];simpa using a0
  rw[this]at htg;cases htg
 rw[u0l hw (by omega) ht]
 congr 1;apply ByteArray.ext;apply Array.toList_inj.1
 show wrtL (rts (hdM b) b p0 n)=b.data.toList
 unfold wrtL;rw[f0]
 have h1:hdL (routeM (hdM b) (entP b (p0+20*0)))=b.data.toList.take p0:=by
  rw[←g.head,g.hd];rfl
 have h2:(rts (hdM b) b p0 n).flatMap lineL=b.data.toList.drop p0:=by
  have:(rts (hdM b) b p0 n).flatMap lineL=(List.range n).flatMap (fun i=>((b.data.toList.drop p0).drop (20*i)).take 20):=by
   unfold rts;rw[List.flatMap_map];apply m0m;intro i hi;exact g.line (List.mem_range.1 hi)
  rw[this,i0o,List.take_of_length_le]
  have hl:b.data.toList.length=b.size:=by simp
  rw[List.length_drop,hl];have:=g.size;omega
 rw[h1,h2,List.take_append_drop]
end Ma
namespace Ap
open Ms Box All
theorem w0i (m:M)(w:World):(Instr.buildSlice 22 1 #[(0,.agg m.cells)]).run Tryz.prog w = .ok (.slice (some ⟨w.heap.size,0,none⟩) 1 1) (w.alloc (.cells m.cells 29)):=by
 kernel_rfl
theorem c0h {o:Oper}{ρ:Operand→Value}{x:Operand}{m:M}{w:World}(ho:o.op = .buildSlice 22 1 #[(0,x)])(hx:ρ x = .agg m.cells) :
    (execOp ρ o).run Tryz.prog w = .ok (.value (.slice (some ⟨w.heap.size,0,none⟩) 1 1)) (w.alloc (.cells m.cells 29)):=by
 have e:((#[(0,x)]:Array (Nat×Operand)).map fun(i,x)=>(i,ρ x)) = #[(0,.agg m.cells)]:=by simp[hx]
 refine' qz74
theorem j0c {ops:Array Oper}{rest:List Oper}{o:Oper}{a:Act}{w:World}{Q:Exit→Act→World→Prop}(hgd:o.guard=none)(x:Operand)(ho:o.op = .buildSlice 22 1 #[(0,x)])
    {m:M} (hx:a.eval x = .agg m.cells) (h:wpList Tryz.prog ops Q rest (a.put o.dst (.slice (some ⟨w.heap.size,0,none⟩) 1 1)) (w.alloc (.cells m.cells 29))):wpList Tryz.prog ops Q (o::rest) a w:=
  wpList_plain hgd fun K hK=>by
    unfold Oper.wp
    rw[c0h ho hx]
    exact hK _ _ h
theorem p0b (g o j:Nat):(⟨g,o,none⟩:Addr).add j=⟨g,o+j,none⟩:=by
 refine' qz9j
def rowC (l:List M):List Value:=l.flatMap fun m=>m.cells.toList
theorem p0t (l:List M)(m:M):rowC (l ++ [m])=rowC l++m.cells.toList:=by simp[rowC]
theorem s0v (l:List M):(rowC l).length=l.length*25:=by
 induction l with
 | nil=>rfl
 | cons m l ih=>
  have:rowC (m::l)=m.cells.toList++rowC l:=by simp[rowC]
  rw[this,List.length_append,ih,List.length_cons];have:m.cells.toList.length=25:=rfl;omega
theorem h0p:∀ (l:List M) (i j:Nat) (h:i<l.length),j<25→(rowC l)[i*25+j]?=(l[i].cells.toList)[j]?
  | [],i,j,h,_=>absurd h (by simp)
  | m::l,0,j,h,hj=>by
    have:rowC (m::l)=m.cells.toList++rowC l:=by simp[rowC]
    rw[this,Nat.zero_mul,Nat.zero_add,List.getElem?_append_left (by show j<m.cells.toList.length;exact hj)]
    rfl
  | m::l,i+1,j,h,hj=>by
    have e:rowC (m::l)=m.cells.toList++rowC l:=by simp[rowC]
    have hl:m.cells.toList.length=25:=rfl
    rw[e,List.getElem?_append_right (by rw[hl];omega),hl,show(i+1)*25+j - 25=i*25+j by omega,h0p l i j (by simpa using h) hj]
    rfl
theorem infoA:∃ i,Tryz.prog.info? 29=some i∧i.zero=some (.agg M.zero.cells)∧i.size=25∧i.bytes≤4096:=by
 have h:(Tryz.prog.info? 29).map (fun i=>(i.zero,i.size,decide (i.bytes≤4096)))=some (some (.agg M.zero.cells),25,true):=by kernel_rfl
 refine' qz65;exact⟨i,hi,hz⟩
def Lst (B:Nat)(w:World)(v:Value)(l:List M):Prop:=w.ownsRow B 29 25 v l.length (rowC l)
theorem Lst.nil (B:Nat)(w:World):Lst B w (.slice none 0 0) []:=World.ownsRow_nil w B _ 25
theorem Lst.below {B:Nat}{w w':World}{v:Value}{l:List M}(h:Lst B w v l)(hb:Below w.heap.size w w'):Lst B w' v l:=by
 refine' qz1h
theorem Lst.slice {B:Nat}{w:World}{v:Value}{l:List M}(h:Lst B w v l):∃ a c,v = .slice a l.length c:=by
 refine' qzd4
def Flat (l:List M):Prop:=∀ m∈l,m.ll = []∧m.sl = []
theorem Lst.row {B:Nat}{w:World}{a:Option Addr}{c:Nat}{l:List M}(h:Lst B w (.slice a l.length c) l)(hf:Flat l):MRow w a l:=by
 intro i hi
 rcases h.2 with⟨_,h0⟩|⟨g,cap,cur,hv,hb,hg,_⟩
 · omega
 · simp at hv;obtain⟨rfl,rfl⟩:=hv
   refine⟨⟨g,0,none⟩,rfl,(Array.getElem?_eq_some_iff.1 hg).1,fun j v hv=>?_,?_,?_⟩
   · have hj:j<25:=(List.getElem?_eq_some_iff.1 hv).1
     have:=World.ownsRow.cells h (g:=g) rfl (i*25+j) v (by rw[h0p l i j hi hj];exact hv)
     rw[p0b]at this;rw[p0b,p0b,Nat.add_assoc];exact this
   · rw[(hf _ (List.getElem_mem hi)).1];exact DRow.nil _ _
   · rw[(hf _ (List.getElem_mem hi)).2];exact SRow.nil _ _
theorem z0a (m:M)(w:World):∀ j u,(m.cells.toList)[j]?=some u→(w.alloc (.cells m.cells 29)).cell? ((⟨w.heap.size,0,none⟩:Addr).add j)=some u:=by
 intro j u hu
 have:=(Bx.new w m).cell j u (by simpa using hu)
 rw[p0b,Nat.zero_add];exact this
theorem f0d {ops:Array Oper}{rest:List Oper}{o:Oper}{a:Act}{w:World}{Q:Exit→Act→World→Prop}(hgd:o.guard=none)(s x:Operand)
    (ho:o.op = .call { callee := .builtin .append,args:=#[s,x],argTypes:=#[22,22]}) (B:Nat) (v:Value) (l:List M) (m:M) (g c:Nat)
    (hs:a.eval s=v) (hown:Lst B w v l) (hx:a.eval x = .slice (some ⟨g,0,none⟩) 1 c) (hm:∀ j u,(m.cells.toList)[j]?=some u→w.cell? ((⟨g,0,none⟩:Addr).add j)=some u)
    (hl:l.length≤100000) (hB:B≤w.heap.size)
    (h:∀ v' w',Lst B w' v' (l ++ [m])→Below B w w'→w.heap.size≤w'.heap.size→wpList Tryz.prog ops Q rest (a.put o.dst v') w'):wpList Tryz.prog ops Q (o::rest) a w:=by
 obtain⟨i0,hi,hz,hsz,hby⟩:=infoA
 refine wpList_append_own w hgd s x 22 ho B 29 i0 (.agg M.zero.cells) 25 i0.bytes Tryz.underlying22 hi hz hsz rfl rfl (by decide) v l.length (rowC l) hs hown ⟨g,0,none⟩ 1 c m.cells.toList hx rfl hm ?_ (by unfold maxLen;omega) ?_ hB ?_
 · intro u hu;have:=oneM m;refine' qzb1
 · have:(l.length+1)*i0.bytes≤100001*4096:=Nat.mul_le_mul (by omega) hby
   omega
 · refine' qza7;unfold Lst;rw[p0t,List.length_append];exact h2
end Ap
end Go.Proofs.YtllhobicfclheaaGreatDoor

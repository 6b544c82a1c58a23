/-
  A part of a proof. No conditions.
-/
import Derived.Test.YtllhobicfclheaaGreatDoorY11
namespace Go.Proofs.YtllhobicfclheaaGreatDoor
open Go.ChangeShapes Go.WideShapes Go.ChangeAt Go.RowKit
set_option linter.unusedVariables false
set_option maxRecDepth 100000
set_option maxHeartbeats 51200000
namespace NRp
open Ms
open Bk (E)
def a0c:ByteArray:=⟨#[0,0,0,0,0,0,0,0,0,0,0,0,0,0,0,0]⟩
def isN (s:ByteArray):Bool:=s.toList == [0,0,0,0,0,0,0,0,0,0,0,0,0,0,0,0]
def lkB (s:ByteArray):Bool:=(s.extract 0 8).toList == [254,128,0,0,0,0,0,0]
def link (s:ByteArray):Bool:=decide (s.size=16)&&lkB s
def isCmd (n:Int):Bool:=n==1||n==2
def isMet (n:Int):Bool:=decide (1≤n)&&decide (n≤16)
def pfxB (s:ByteArray)(p:Int):Bool:=decide (s.size=16)&&Pre.rightZ s p
def nextB (s:ByteArray):Bool:=isN s||link s
def rightB (m:M):Bool:=m.kind==2&&(B2.r0j m&&(isCmd m.cmd&&(Oct.fitsB m.tag 2&&(isMet m.metric&&(pfxB m.pfx m.plen&&nextB m.next)))))
theorem q0h (s:ByteArray):isN s=true↔s=a0c:=by
 unfold isN a0c;rw[beq_iff_eq,ByteArray.toList_eq];constructor
 · intro h;exact ByteArray.ext (Array.toList_inj.1 h)
 · rintro rfl;rfl
theorem q0j {s:ByteArray}(h:isN s=true):s.size=16:=by rw[(q0h s).1 h];rfl
theorem f0r:isN a0c=true:=(q0h _).2 rfl
theorem i0d {s:ByteArray}(h:link s=true):s.size=16:=by
 unfold link at h;refine' qzcs;exact h.1
theorem p0j {s:ByteArray}(h:s.size=16):link s=lkB s:=by unfold link;rw[decide_eq_true h];rfl
theorem y0o {s:ByteArray}(h:s.size≠16):link s=false:=by unfold link;rw[decide_eq_false h];rfl
theorem o0s {s:ByteArray}(h:nextB s=true):s.size=16:=by
 unfold nextB at h;rw[Bool.or_eq_true]at h;exact h.elim q0j i0d
theorem c1n {s:ByteArray}{p:Int}(h:s.size=16):pfxB s p=Pre.rightZ s p:=by unfold pfxB;rw[decide_eq_true h];rfl
theorem e1r {s:ByteArray}{p:Int}(h:s.size≠16):pfxB s p=false:=by unfold pfxB;rw[decide_eq_false h];rfl
theorem cmd_or {n:Int}(h:isCmd n=true):n=1∨n=2:=by
 unfold isCmd at h;simpa[beq_iff_eq]using h
def bt (b:ByteArray)(i:Nat):Int:=((b.data.toList.getD i 0).toNat:Int)
theorem p0h (b:ByteArray)(i:Nat)(h:i<b.size):(b[i].toNat:Int)=bt b i:=by
 refine' qz9y;rfl
theorem d0b (b:ByteArray)(i:Nat):0≤bt b i:=Int.natCast_nonneg _
theorem o0b (b:ByteArray)(i:Nat):bt b i<256:=by
 unfold bt;have:=UInt8.toNat_lt (b.data.toList.getD i 0);omega
def hdAt (b:ByteArray):Int×Int:=if 65535<b.size then(65535,10)else if b.size<4 then((b.size:Int),2)else if isCmd (bt b 0)=false then(0,4)else if(bt b 1==1)=false then(1,4)else if Oct.zeroB (b.extract 2 4).data.toList=false then(2,5)else if(b.size - 4)%20≠0 then((b.size:Int),2)else(0,0)
def ckHop (e:E):Int:=if e.tag==0&&e.fam==0 then 0 else 5
def ckRte (e:E):Int:=if pfxB e.addr e.fam then(if isMet e.met then 0 else 6)else 7
def ckE (e:E):Int:=if e.met=255 then ckHop e else ckRte e
def nx1 (e:E):ByteArray:=if link e.addr then e.addr else a0c
def routeM (c:Int)(nx:ByteArray)(e:E):M:={ M.zero with kind:=2,cmd:=c,pfx:=e.addr,plen:=e.fam,tag:=e.tag,next:=nx,metric:=e.met}
def nxt (nx:ByteArray):List E→ByteArray
  | []=>nx
  | e::es=>nxt (if e.met=255 then nx1 e else nx) es
def run (c:Int):ByteArray→List E→List M
  | _,[]=>[]
  | nx,e::es=>if e.met=255 then run c (nx1 e) es else routeM c nx e::run c nx es
theorem c0w (e:E):∀ (es:List E) (nx:ByteArray),nxt nx (es ++ [e])=if e.met=255 then nx1 e else nxt nx es
  | [],nx=>rfl
  | x::es,nx=>c0w e es _
theorem b0q (c:Int)(e:E):∀ (es:List E) (nx:ByteArray),run c nx (es ++ [e])=run c nx es++(if e.met=255 then []else [routeM c (nxt nx es) e])
  | [],nx=>by
    show(if e.met=255 then run c (nx1 e) []else routeM c nx e::run c nx [])=_
    split<;>rfl
  | x::es,nx=>by
    show(if x.met=255 then run c (nx1 x) (es ++ [e])else routeM c nx x::run c nx (es ++ [e]))=(if x.met=255 then run c (nx1 x) es else routeM c nx x::run c nx es)++(if e.met=255 then []else [routeM c (nxt (if x.met=255 then nx1 x else nx) es) e])
    by_cases h:x.met=255
    · rw[if_pos h,if_pos h,if_pos h];exact b0q c e es _
    · rw[if_neg h,if_neg h,if_neg h,b0q c e es nx];rfl
theorem b0v (c:Int):∀ (es:List E) (nx:ByteArray),(run c nx es).length≤es.length
  | [],_=>Nat.le_refl _
  | x::es,nx=>by
    show(if x.met=255 then run c (nx1 x) es else routeM c nx x::run c nx es).length≤es.length+1
    split
    · have:=b0v c es (nx1 x);omega
    · have:=b0v c es nx;rw[List.length_cons];omega
theorem n0q (c:Int):∀ (es:List E) (nx:ByteArray),∀ m∈run c nx es,m.ll = []∧m.sl = []∧m.la=none∧m.sa=none
  | [],_,m,hm=>by cases hm
  | x::es,nx,m,hm=>by
    change m∈(if x.met=255 then run c (nx1 x) es else routeM c nx x::run c nx es)at hm
    split at hm
    · exact n0q c es _ m hm
    · rcases List.mem_cons.1 hm with rfl|hm
      · exact⟨rfl,rfl,rfl,rfl⟩
      · exact n0q c es _ m hm
def entP (b:ByteArray)(p:Nat):E:=Rte.E.of (b.extract p (p+20))
def esK (b:ByteArray)(k:Nat):List E:=(List.range k).map fun i=>entP b (4+20*i)
theorem o0v (b:ByteArray)(k:Nat):esK b (k+1)=esK b k ++ [entP b (4+20*k)]:=by simp[esK,List.range_succ]
theorem x1b (b:ByteArray)(k:Nat):(esK b k).length=k:=by simp[esK]
def rts (b:ByteArray)(k:Nat):List M:=run (bt b 0) a0c (esK b k)
def nxK (b:ByteArray)(k:Nat):ByteArray:=nxt a0c (esK b k)
theorem o0q (b:ByteArray)(k:Nat):rts b (k+1)=rts b k++(if(entP b (4+20*k)).met=255 then []else [routeM (bt b 0) (nxK b k) (entP b (4+20*k))]):=by
 unfold rts nxK;rw[o0v,b0q]
theorem i1g (b:ByteArray)(k:Nat):nxK b (k+1)=if(entP b (4+20*k)).met=255 then nx1 (entP b (4+20*k))else nxK b k:=by
 unfold nxK;rw[o0v,c0w]
theorem q0g (b:ByteArray)(k:Nat):(rts b k).length≤k:=by
 have:=b0v (bt b 0) (esK b k) a0c;rw[x1b]at this;exact this
def bad (f:Nat→Int)(n:Nat):Option Nat:=(List.range n).find? fun i=>f i != 0
theorem d0d {f:Nat→Int}{n:Nat}(h:∀ i,i<n→f i=0):bad f n=none:=by
 unfold bad;rw[List.find?_eq_none];intro i hi;have:=h i (List.mem_range.1 hi);simp[this]
theorem j0e {f:Nat→Int}{n k:Nat}(hk:k<n)(h:∀ i,i<k→f i=0)(hn:f k≠0):bad f n=some k:=by
 unfold bad;rw[List.find?_range_eq_some]
 exact⟨by simpa using hn,List.mem_range.2 hk,fun j hj=>by simp[h j hj]⟩
theorem first_of (f:Nat→Int)(n:Nat):(∃ k,k<n∧(∀ i,i<k→f i=0)∧f k≠0)∨(∀ i,i<n→f i=0):=by
 refine' qzdc
def ckI (b:ByteArray)(i:Nat):Int:=ckE (entP b (4+20*i))
def ents (b:ByteArray)(n:Nat):List M×Int×Int:=
  match bad (ckI b) n with
  | some i=>([],((4+20*i:Nat):Int),ckI b i)
  | none=>if(rts b n).length=0 then([],(b.size:Int),8)else(rts b n,0,0)
theorem o0l {b:ByteArray}{n k:Nat}(hk:k<n)(hl:∀ i,i<k→ckI b i=0)(hn:ckI b k≠0):ents b n=([],((4+20*k:Nat):Int),ckI b k):=by
 unfold ents;rw[j0e hk hl hn]
theorem a0f {b:ByteArray}{n:Nat}(hl:∀ i,i<n→ckI b i=0):ents b n=if(rts b n).length=0 then([],(b.size:Int),8)else(rts b n,0,0):=by
 unfold ents;rw[d0d hl]
def out (b:ByteArray):List M×Int×Int:=if(hdAt b).2≠0 then([],hdAt b)else ents b ((b.size - 4) / 20)
theorem z0p {b:ByteArray}(h:(hdAt b).2=0):b.size≤65535∧4≤b.size∧isCmd (bt b 0)=true∧bt b 1=1∧Oct.zeroB (b.extract 2 4).data.toList=true∧(b.size - 4)%20=0:=by
 unfold hdAt at h;by_cases h0:65535<b.size
 · rw[if_pos h0]at h;simp at h
 rw[if_neg h0]at h;by_cases h1:b.size<4
 · rw[if_pos h1]at h;simp at h
 rw[if_neg h1]at h;by_cases h2:isCmd (bt b 0)=false
 · rw[if_pos h2]at h;simp at h
 rw[if_neg h2]at h;by_cases h3:(bt b 1==1)=false
 · rw[if_pos h3]at h;simp at h
 rw[if_neg h3]at h;by_cases h4:Oct.zeroB (b.extract 2 4).data.toList=false
 · rw[if_pos h4]at h;simp at h
 rw[if_neg h4]at h;by_cases h5:(b.size - 4)%20≠0
 · rw[if_pos h5]at h;simp at h
 exact⟨by omega,by omega,by simpa using h2,by simpa using h3,by simpa using h4,by omega⟩
theorem l0n (b:ByteArray)(h:4≤b.size):Oct.zeroB (b.extract 2 4).data.toList=(bt b 2==0&&bt b 3==0):=by
 have h2:2<b.size:=by omega
 have h3:3<b.size:=by omega
 refine' qz81;unfold Oct.zeroB
 have q:∀ c:UInt8,(c==0)=((c.toNat:Int)==0):=fun c=>by
  rw[Bool.eq_iff_iff,beq_iff_eq,beq_iff_eq,←UInt8.toNat_inj]
  show c.toNat=0↔_
  omega
 simp[q]
def hopE (nx:ByteArray):E:={ E.zero with addr:=nx,met:=255}
def entM (m:M):E:={ E.zero with addr:=m.pfx,fam:=m.plen,tag:=m.tag,met:=m.metric}
def putL (e:E):List UInt8:=(Rte.putE e).data.toList
def entsM (nx:ByteArray)(m:M):List E:=(if m.next=nx then []else [hopE m.next]) ++ [entM m]
def entsL:ByteArray→List M→List E
  | _,[]=>[]
  | nx,m::l=>entsM nx m++entsL m.next l
def lastN:ByteArray→List M→ByteArray
  | nx,[]=>nx
  | _,m::l=>lastN m.next l
theorem p0q (m:M):∀ (l:List M) (nx:ByteArray),lastN nx (l ++ [m])=m.next
  | [],_=>rfl
  | x::l,_=>p0q m l _
theorem y0r (m:M):∀ (l:List M) (nx:ByteArray),entsL nx (l ++ [m])=entsL nx l++entsM (lastN nx l) m
  | [],nx=>by show entsM nx m++entsL m.next []=_;simp[entsL,lastN]
  | x::l,nx=>by
    show entsM nx x++entsL x.next (l ++ [m])=entsM nx x++entsL x.next l++entsM (lastN x.next l) m
    rw[y0r m l x.next,List.append_assoc]
def hdL (c:Int):List UInt8:=Rte.layN c 1 ++ [1,0,0]
def at0 (l:List M)(i:Nat):M:=l.getD i M.zero
theorem m0d (l:List M)(i:Nat)(h:i<l.length):at0 l i=l[i]:=by unfold at0;rw[List.getD_eq_getElem?_getD,List.getElem?_eq_getElem h];rfl
def bsK (l:List M)(k:Nat):List UInt8:=hdL (at0 l 0).cmd++(entsL a0c (l.take k)).flatMap putL
def laK (l:List M)(k:Nat):ByteArray:=lastN a0c (l.take k)
def wrtL (l:List M):List UInt8:=hdL (at0 l 0).cmd++(entsL a0c l).flatMap putL
theorem c0n (l:List M):bsK l 0=hdL (at0 l 0).cmd:=by simp[bsK,entsL]
theorem j0n (l:List M)(k:Nat)(h:k<l.length):bsK l (k+1)=bsK l k++(entsM (laK l k) l[k]).flatMap putL:=by
 unfold bsK laK;rw[List.take_succ_eq_append_getElem h,y0r,List.flatMap_append,List.append_assoc]
theorem r1l (l:List M)(k:Nat)(h:k<l.length):laK l (k+1)=l[k].next:=by
 unfold laK;rw[List.take_succ_eq_append_getElem h,p0q]
theorem y0z (l:List M):bsK l l.length=wrtL l:=by unfold bsK wrtL;rw[List.take_length]
theorem q0k (e:E):(putL e).length≤20:=by
 unfold putL;cases h:Rte.okE e
 · rw[Rte.i0s e h];decide
 · have:=(Rte.k0c e h).1;simp[this]
theorem l1f (nx:ByteArray)(m:M):((entsM nx m).flatMap putL).length≤40:=by
 unfold entsM
 have h1:=q0k (hopE m.next)
 have h2:=q0k (entM m)
 split<;>simp<;>omega
theorem o0k (c:Int):(hdL c).length≤4:=by
 unfold hdL;have:=Rte.i0a c 1;simp;omega
theorem q0q (l:List M):∀ k,k≤l.length→(bsK l k).length≤4+40*k
  | 0,_=>by rw[c0n];exact o0k _
  | k+1,h=>by
    rw[j0n l k h,List.length_append]
    have:=q0q l k (by omega)
    have:=l1f (laK l k) l[k]
    omega
def ckW (l:List M)(i:Nat):Int:=if rightB (at0 l i)then 0 else 1
def ckC (l:List M)(i:Nat):Int:=if(at0 l i).cmd=(at0 l 0).cmd then 0 else 7
def enc (l:List M):ByteArray×Int×Int:=
  match bad (ckW l) l.length with
  | some i=>(ByteArray.mk #[],((i:Nat):Int),1)
  | none=>if l.length=0 then(⟨#[]⟩,0,8)else
    match bad (ckC l) l.length with
    | some i=>(ByteArray.mk #[],((i:Nat):Int),7)
    | none=>(⟨(wrtL l).toArray⟩,0,0)
theorem g0d {l:List M}{k:Nat}(hk:k<l.length)(h:∀ i,i<k→ckW l i=0)(hn:ckW l k≠0):enc l=(ByteArray.mk #[],((k:Nat):Int),1):=by
 unfold enc;rw[j0e hk h hn]
theorem q0e {l:List M}(h:l.length=0):enc l=(ByteArray.mk #[],0,8):=by
 unfold enc
 rw[d0d (fun i hi=>absurd hi (by omega)),if_pos h]
theorem z0h {l:List M}{k:Nat}(hw:∀ i,i<l.length→ckW l i=0)(hk:k<l.length)(h:∀ i,i<k→ckC l i=0)(hn:ckC l k≠0):enc l=(ByteArray.mk #[],((k:Nat):Int),7):=by
 unfold enc
 rw[d0d hw,if_neg (by omega),j0e hk h hn]
theorem u0l {l:List M}(hw:∀ i,i<l.length→ckW l i=0)(h0:l.length≠0)(h:∀ i,i<l.length→ckC l i=0):enc l=(ByteArray.mk (wrtL l).toArray,0,0):=by
 unfold enc;rw[d0d hw,if_neg h0,d0d h]
theorem u0j {l:List M}{i:Nat}:ckW l i=0↔rightB (at0 l i)=true:=by
 unfold ckW
 cases rightB (at0 l i)<;>simp
theorem g0w {l:List M}{i:Nat}:ckC l i=0↔(at0 l i).cmd=(at0 l 0).cmd:=by
 unfold ckC
 split<;>simp_all
theorem c0i {l:List M}(h:∀ i,i<l.length→ckW l i=0):∀ m∈l,rightB m=true:=by
 intro m hm;obtain⟨i,hi,rfl⟩:=List.getElem_of_mem hm;have:=u0j.1 (h i hi);rwa [m0d l i hi]at this
end NRp
namespace NMa
open Ms NRp All
open Own (k2)
open Bk (E)
theorem d0j (c:Int)(nx:ByteArray)(e:E):B2.r0j (routeM c nx e)=true:=by
 unfold B2.r0j M.same M.flatE;simp[routeM,k2,M.zero]
structure Fit (e:E):Prop where
  (m:e.mask=⟨#[]⟩) (n:e.next=⟨#[]⟩) (ok:Rte.okE e=true)
theorem g0v (s:ByteArray)(h:s.size=20):Fit (Rte.E.of s):=⟨rfl,rfl,(Rte.z0t s h).1⟩
theorem n1p {e:E}(h:ckRte e=0):pfxB e.addr e.fam=true∧isMet e.met=true:=by
 unfold ckRte at h;cases h1:pfxB e.addr e.fam
 · rw[h1]at h;simp at h
 cases h2:isMet e.met
 · rw[h1,h2]at h;simp at h
 exact⟨rfl,rfl⟩
theorem c1k (c:Int)(nx:ByteArray){e:E}(hf:Fit e):entM (routeM c nx e)=e:=by
 obtain⟨fam,tag,addr,mask,next,met⟩:=e
 obtain⟨h1,h2,_⟩:=hf;change mask=_ at h1
 change next=_ at h2
 subst h1 h2;rfl
theorem e0g {c:Int}{nx:ByteArray}{e:E}(hc:isCmd c=true)(hn:nextB nx=true)(hf:Fit e)(h:ckRte e=0):rightB (routeM c nx e)=true:=by
 obtain⟨h1,h2⟩:=n1p h;have ht:=(Rte.b0y e hf.ok).2.2.2.1;unfold rightB
 show((2:Int)==2&&(B2.r0j (routeM c nx e)&&(isCmd c&&(Oct.fitsB e.tag 2&&(isMet e.met&&(pfxB e.addr e.fam&&nextB nx))))))=true
 rw[d0j,hc,ht,h1,h2,hn];rfl
def norm (c:Int)(m:M):M:=routeM c m.next (entM m)
theorem g0r {nx:ByteArray}(h:nextB nx=true):Rte.okE (hopE nx)=true∧ckE (hopE nx)=0∧nx1 (hopE nx)=nx:=by
 have hs:=o0s h
 refine⟨Rte.g1j hs rfl rfl (show Oct.fitsB 0 2=true by decide) (show Oct.fitsB 0 1=true by decide) (show Oct.fitsB 255 1=true by decide),rfl,?_⟩
 show(if link nx then nx else a0c)=nx
 cases hl:link nx
 · unfold nextB at h;rw[hl,Bool.or_false]at h;rw[(q0h nx).1 h];rfl
 · rfl
structure Rt (m:M):Prop where
  kind:m.kind=2
  bare:B2.r0j m=true
  c:isCmd m.cmd=true
  t:Oct.fitsB m.tag 2=true
  met:isMet m.metric=true
  p:pfxB m.pfx m.plen=true
  nx:nextB m.next=true
theorem f0f {m:M}(h:rightB m=true):Rt m:=by
 unfold rightB at h;simp only[Bool.and_eq_true,beq_iff_eq]at h;exact⟨h.1,h.2.1,h.2.2.1,h.2.2.2.1,h.2.2.2.2.1,h.2.2.2.2.2.1,h.2.2.2.2.2.2⟩
theorem g1i {m:M}(h:rightB m=true):Rte.okE (entM m)=true∧ckE (entM m)=0∧(entM m).met≠255:=by
 obtain⟨_,_,_,ht,hm,hp,_⟩:=f0f h;have hm2:=hm;have hp2:=hp;unfold isMet at hm;unfold pfxB Pre.rightZ at hp;simp only[Bool.and_eq_true,decide_eq_true_eq]at hm hp
 have p1:((Oct.pw (1:Int).toNat:Nat):Int)=256:=by decide
 have h255:(entM m).met≠255:=by show m.metric≠255;omega
 refine⟨Rte.g1j hp.1 rfl rfl ht ?_ ?_,?_,h255⟩
 · show Oct.fitsB m.plen 1=true
   rw[Oct.e0b,p1];omega
 · show Oct.fitsB m.metric 1=true
   rw[Oct.e0b,p1];omega
 · unfold ckE;rw[if_neg h255];unfold ckRte
   show(if pfxB m.pfx m.plen then(if isMet m.metric then 0 else 6)else 7:Int)=0
   rw[hp2,hm2];rfl
theorem p1b:∀ (l:List M) (nx:ByteArray),(∀ m∈l,rightB m=true)→∀ e∈entsL nx l,Rte.okE e=true∧ckE e=0
  | [],_,_,e,he=>by cases he
  | m::l,nx,h,e,he=>by
    have hm:=h m (List.mem_cons_self ..)
    change e∈entsM nx m++entsL m.next l at he
    rcases List.mem_append.1 he with he|he
    · unfold entsM at he
      rcases List.mem_append.1 he with he|he
      · split at he
        · cases he
        · obtain rfl:e=hopE m.next:=by simpa using he
          have:=g0r (f0f hm).nx
          exact⟨this.1,this.2.1⟩
      · obtain rfl:e=entM m:=by simpa using he
        have:=g1i hm
        exact⟨this.1,this.2.1⟩
    · exact p1b l m.next (fun u hu=>h u (List.mem_cons_of_mem _ hu)) e he
theorem j0w (c:Int):∀ (l:List M) (nx:ByteArray),(∀ m∈l,rightB m=true)→run c nx (entsL nx l)=l.map (norm c)
  | [],_,_=>rfl
  | m::l,nx,h=>by
    have hm:=h m (List.mem_cons_self ..)
    have ih:=j0w c l m.next (fun u hu=>h u (List.mem_cons_of_mem _ hu))
    have h255:=(g1i hm).2.2
    have step:∀ es,run c m.next (entM m::es)=norm c m::run c m.next es:=fun es=>by
      show(if(entM m).met=255 then run c (nx1 (entM m)) es else routeM c m.next (entM m)::run c m.next es)=_
      rw[if_neg h255];rfl
    show run c nx (((if m.next=nx then []else [hopE m.next]) ++ [entM m])++entsL m.next l)=norm c m::l.map (norm c)
    by_cases hn:m.next=nx
    · rw[if_pos hn,←hn]
      show run c m.next (entM m::entsL m.next l)=_
      rw[step,ih]
    · rw[if_neg hn]
      show run c nx (hopE m.next::entM m::entsL m.next l)=_
      show(if(255:Int)=255 then run c (nx1 (hopE m.next)) (entM m::entsL m.next l)else _)=_
      rw[if_pos rfl,(g0r (f0f hm).nx).2.2,step,ih]
theorem piece {f:E→List UInt8}:∀ (es:List E),(∀ e∈es,(f e).length=20)→∀ i (h:i<es.length),((es.flatMap f).drop (20*i)).take 20=f es[i]
  | [],_,i,h=>absurd h (by simp)
  | e::es,hl,0,_=>by
    have:=hl e (List.mem_cons_self ..)
    rw[List.flatMap_cons,Nat.mul_zero,List.drop_zero,List.take_left' this]
    rfl
  | e::es,hl,i+1,h=>by
    have he:=hl e (List.mem_cons_self ..)
    have ih:=piece es (fun u hu=>hl u (List.mem_cons_of_mem _ hu)) i (by simpa using h)
    rw[List.flatMap_cons,show 20*(i+1)=20+20*i by omega,←List.drop_drop,List.drop_left' he,ih]
    rfl
theorem q0v {f:E→List UInt8}:∀ (es:List E),(∀ e∈es,(f e).length=20)→(es.flatMap f).length=20*es.length
  | [],_=>rfl
  | e::es,hl=>by
    have he:=hl e (List.mem_cons_self ..)
    have ih:=q0v es (fun u hu=>hl u (List.mem_cons_of_mem _ hu))
    rw[List.flatMap_cons,List.length_append,he,ih,List.length_cons]
    omega
theorem b1t {c:Int}(hc:isCmd c=true):∃ x:UInt8,hdL c = [x,1,0,0]∧(x.toNat:Int)=c:=by
 rcases cmd_or hc with rfl|rfl
 · exact⟨1,rfl,rfl⟩
 · exact⟨2,rfl,rfl⟩
theorem j1r {e:E}(h:Rte.okE e=true):(putL e).length=20:=by
 have:=(Rte.k0c e h).1;unfold putL;simpa using this
theorem e0u {c:Int}{es:List E}(hc:isCmd c=true)(he:∀ e∈es,Rte.okE e=true∧ckE e=0)(hn:es.length≤3276)(h0:(run c a0c es).length≠0) :
    out ⟨(hdL c++es.flatMap putL).toArray⟩=(run c a0c es,0,0)∧(hdL c++es.flatMap putL).length=4+20*es.length:=by
 obtain⟨x,hx,hxc⟩:=b1t hc
 have hp:∀ e∈es,(putL e).length=20:=fun e h=>j1r (he e h).1
 have hfl:=q0v es hp
 have hlen:(hdL c++es.flatMap putL).length=4+20*es.length:=by rw[hx,List.length_append,hfl];rfl
 refine⟨?_,hlen⟩
 have hS:(ByteArray.mk (hdL c++es.flatMap putL).toArray).size=4+20*es.length:=by show(hdL c++es.flatMap putL).toArray.size=_;simpa using hlen
 have hD:(ByteArray.mk (hdL c++es.flatMap putL).toArray).data.toList=x::1::0::0::es.flatMap putL:=by rw[hx];rfl
 generalize ByteArray.mk (hdL c++es.flatMap putL).toArray=S at *
 have b0:bt S 0=c:=by unfold bt;rw[hD];exact hxc
 have b1:bt S 1=1:=by unfold bt;rw[hD];rfl
 have b2:bt S 2=0:=by unfold bt;rw[hD];rfl
 have b3:bt S 3=0:=by unfold bt;rw[hD];rfl
 have hh:hdAt S=(0,0):=by
  unfold hdAt
  rw[if_neg (by omega),if_neg (by omega),b0,hc,b1,l0n S (by omega),b2,b3,hS]
  rw[if_neg (by decide),if_neg (by decide),if_neg (by decide),if_neg (by omega)]
 have hE:∀ i (h:i<es.length),entP S (4+20*i)=es[i]:=fun i h=>by
  have ho:=(he es[i] (List.getElem_mem h)).1;unfold entP
  have:S.extract (4+20*i) (4+20*i+20)=Rte.putE es[i]:=Rte.k0a (by
   rw[Rte.n0a,hD,show 4+20*i+20 - (4+20*i)=20 by omega,←List.drop_drop]
   show((es.flatMap putL).drop (20*i)).take 20=_
   exact piece es hp i h)
  rw[this,(Rte.k0c _ ho).2]
 have hK:esK S es.length=es:=by
  unfold esK;apply List.ext_getElem
  · simp
  · intro i h1 h2;simp only[List.getElem_map,List.getElem_range];exact hE i h2
 have hR:rts S es.length=run c a0c es:=by unfold rts;rw[hK,b0]
 have hI:∀ i,i<es.length→ckI S i=0:=fun i h=>by
  unfold ckI;rw[hE i h];exact(he es[i] (List.getElem_mem h)).2
 unfold out
 rw[hh,if_neg (by simp),hS,show(4+20*es.length - 4) / 20=es.length by omega,a0f hI,hR,if_neg h0]
structure Wrt (l:List M):Prop where
  n1:1≤l.length
  r:∀ m∈l,rightB m=true
  t:∀ m∈l,m.cmd=(at0 l 0).cmd
theorem y0t (l:List M):((enc l).2.2≠0∧(enc l).1=⟨#[]⟩∧0≤(enc l).2.1∧(enc l).2.1≤(l.length:Int))∨(Wrt l∧enc l=(⟨(wrtL l).toArray⟩,0,0)):=by
 rcases first_of (ckW l) l.length with⟨k,h1,h2,h3⟩|hw
 · rw[g0d h1 h2 h3]
   exact .inl ⟨show(1:Int)≠0 by decide,rfl,Int.natCast_nonneg _,by show((k:Nat):Int)≤l.length;omega⟩
 by_cases h0:l.length=0
 · rw[q0e h0]
   exact .inl ⟨show(8:Int)≠0 by decide,rfl,Int.le_refl _,Int.natCast_nonneg _⟩
 rcases first_of (ckC l) l.length with⟨k,h1,h2,h3⟩|ht
 · rw[z0h hw h1 h2 h3]
   exact .inl ⟨show(7:Int)≠0 by decide,rfl,Int.natCast_nonneg _,by show((k:Nat):Int)≤l.length;omega⟩
 · refine .inr ⟨⟨by omega,c0i hw,fun m hm=>?_⟩,u0l hw h0 ht⟩
   obtain⟨i,hi,rfl⟩:=List.getElem_of_mem hm;have:=g0w.1 (ht i hi);rwa [m0d l i hi]at this
theorem Wrt.enc {l:List M}(W:Wrt l):enc l=(⟨(wrtL l).toArray⟩,0,0):=by
 refine u0l (fun i hi=>?_) (by have:=W.n1;omega) (fun i hi=>?_)
 · rw[u0j,m0d l i hi];exact W.r _ (List.getElem_mem hi)
 · rw[g0w,m0d l i hi];exact W.t _ (List.getElem_mem hi)
theorem Wrt.c {l:List M}(W:Wrt l):isCmd (at0 l 0).cmd=true:=by
 have h0:0<l.length:=W.n1;rw[m0d l 0 h0];exact(f0f (W.r _ (List.getElem_mem h0))).c
theorem t0q:∀ (l:List M) (nx:ByteArray),(entsL nx l).length≤2*l.length
  | [],_=>Nat.le_refl _
  | m::l,nx=>by
    have ih:=t0q l m.next
    show(entsM nx m++entsL m.next l).length≤2*(l.length+1)
    have:(entsM nx m).length≤2:=by unfold entsM;split<;>simp
    rw[List.length_append]
    omega
theorem n0p {l:List M}(W:Wrt l)(hl:l.length≤1000):out ⟨(wrtL l).toArray⟩=(l.map (norm (at0 l 0).cmd),0,0)∧(wrtL l).length=4+20*(entsL a0c l).length:=by
 have hr:=j0w (at0 l 0).cmd l a0c W.r
 have:=e0u (c:=(at0 l 0).cmd) (es:=entsL a0c l) W.c (p1b l a0c W.r) (by have:=t0q l a0c;omega) (by rw[hr];have:=W.n1;simp;intro h;rw[h]at this;simp at this)
 rw[hr]at this;exact this
theorem u1e {m:M}{c:Int}(h:rightB m=true)(hc:m.cmd=c):M.same m (norm c m)=true:=by
 obtain⟨hk,hb,_⟩:=f0f h;unfold B2.r0j M.same M.flatE at hb;unfold M.same M.flatE;simp only[Bool.and_eq_true]at hb⊢;obtain⟨⟨b0,b1,b2,b3,b4,b5,b6,b7,b8,b9,b10,b11,b12,b13,b14,b15,b16,b17,b18,b19,b20,b21,b22⟩,b23,b24⟩:=hb;refine⟨⟨?_,?_,b2,b3,b4,b5,b6,b7,b8,b9,b10,b11,b12,b13,b14,b15,b16,b17,b18,b19,b20,b21,b22⟩,b23,b24⟩
 · show(m.kind==2)=true
   rw[hk];rfl
 · show(m.cmd==c)=true
   rw[hc];simp
theorem a1j {l:List M}(W:Wrt l):sameL l (l.map (norm (at0 l 0).cmd))=true:=
  s0g (by simp) fun i h1 h2=>by
    rw[List.getElem_map]
    exact u1e (W.r _ (List.getElem_mem h1)) (W.t _ (List.getElem_mem h1))
theorem o1e (c:Int)(l:List M):Ap.Flat (l.map (norm c)):=fun m hm=>by
  obtain⟨u,_,rfl⟩:=List.mem_map.1 hm
  exact⟨rfl,rfl⟩
structure Good (b:ByteArray)(n:Nat):Prop where
  sz:b.size=4+20*n
  c:isCmd (bt b 0)=true
  ck:∀ i,i<n→ckI b i=0
  n0:(rts b n).length≠0
  o:out b=(rts b n,0,0)
theorem k1c (b:ByteArray):((out b).2.2≠0∧(out b).1 = []∧0≤(out b).2.1∧(out b).2.1≤(b.size:Int))∨∃ n,Good b n:=by
 by_cases h:(hdAt b).2=0;rotate_left
 · refine .inl ?_
   have e:out b=([],hdAt b):=by unfold NRp.out;rw[if_pos h]
   rw[e];refine⟨h,rfl,?_⟩
   show 0≤(hdAt b).1∧(hdAt b).1≤_
   unfold hdAt;split
   · exact⟨show(0:Int)≤65535 by decide,by show(65535:Int)≤_;omega⟩
   split
   · exact⟨Int.natCast_nonneg _,Int.le_refl _⟩
   split
   · exact⟨Int.le_refl _,Int.natCast_nonneg _⟩
   split
   · exact⟨show(0:Int)≤1 by decide,by show(1:Int)≤_;omega⟩
   split
   · exact⟨show(0:Int)≤2 by decide,by show(2:Int)≤_;omega⟩
   split
   · exact⟨Int.natCast_nonneg _,Int.le_refl _⟩
   · exact⟨Int.le_refl _,Int.natCast_nonneg _⟩
 obtain⟨h65,h4,hc,_,_,h20⟩:=z0p h
 obtain⟨n,hn⟩:∃ n,b.size=4+20*n:=⟨(b.size - 4) / 20,by omega⟩
 have e:out b=ents b n:=by unfold NRp.out;rw[if_neg (by simpa using h),show(b.size - 4) / 20=n by omega]
 rcases first_of (ckI b) n with⟨k,h1,h2,h3⟩|hk
 · rw[e,o0l h1 h2 h3]
   exact .inl ⟨h3,rfl,Int.natCast_nonneg _,by show((4+20*k:Nat):Int)≤_;omega⟩
 by_cases h0:(rts b n).length=0
 · rw[e,a0f hk,if_pos h0]
   exact .inl ⟨show(8:Int)≠0 by decide,rfl,Int.natCast_nonneg _,Int.le_refl _⟩
 · exact .inr ⟨n,hn,hc,hk,h0,by rw[e,a0f hk,if_neg h0]⟩
theorem a1r (e:E):nextB (nx1 e)=true:=by
 unfold nx1 nextB;cases h:link e.addr
 · rw[show(if false=true then e.addr else a0c)=a0c from rfl,f0r];rfl
 · rw[show(if true=true then e.addr else a0c)=e.addr from rfl,h];simp
theorem o0m {c:Int}(hc:isCmd c=true):∀ (es:List E) (nx:ByteArray),nextB nx=true→(∀ e∈es,Fit e∧ckE e=0)→∀ m∈run c nx es,rightB m=true∧m.cmd=c∧norm c m=m
  | [],_,_,_,m,hm=>by cases hm
  | e::es,nx,hn,h,m,hm=>by
    have he:=h e (List.mem_cons_self ..)
    have ht:∀ u∈es,Fit u∧ckE u=0:=fun u hu=>h u (List.mem_cons_of_mem _ hu)
    change m∈(if e.met=255 then run c (nx1 e) es else routeM c nx e::run c nx es)at hm
    by_cases h255:e.met=255
    · rw[if_pos h255]at hm
      exact o0m hc es _ (a1r e) ht m hm
    · rw[if_neg h255]at hm
      rcases List.mem_cons.1 hm with rfl|hm
      · have hr:ckRte e=0:=by have:=he.2;unfold ckE at this;rwa [if_neg h255]at this
        exact⟨e0g hc hn he.1 hr,rfl,by unfold norm;rw[c1k c nx he.1];rfl⟩
      · exact o0m hc es nx hn ht m hm
theorem u0r (c:Int):∀ (es:List E) (a nx:ByteArray),(∀ e∈es,Fit e)→(entsL a (run c nx es)).length≤es.length+(if a=nx then 0 else 1)
  | [],a,nx,_=>by show 0≤_;omega
  | e::es,a,nx,h=>by
    have ht:∀ u∈es,Fit u:=fun u hu=>h u (List.mem_cons_of_mem _ hu)
    show(entsL a (if e.met=255 then run c (nx1 e) es else routeM c nx e::run c nx es)).length≤(es.length+1)+_
    by_cases h255:e.met=255
    · rw[if_pos h255]
      have:=u0r c es a (nx1 e) ht
      have h1:(if a=nx1 e then 0 else 1)≤1:=by split<;>omega
      omega
    · rw[if_neg h255]
      have:=u0r c es nx nx ht
      rw[if_pos rfl]at this
      show(entsM a (routeM c nx e)++entsL nx (run c nx es)).length≤_
      rw[List.length_append]
      unfold entsM
      show((if nx=a then []else [hopE nx]) ++ [entM (routeM c nx e)]).length+_≤_
      by_cases hx:nx=a
      · rw[if_pos hx,if_pos hx.symm];simp;omega
      · rw[if_neg hx,if_neg (fun h=>hx h.symm)];simp;omega
theorem map_id {f:M→M}:∀ {l:List M},(∀ m∈l,f m=m)→l.map f=l
  | [],_=>rfl
  | m::l,h=>by rw[List.map_cons,h m (List.mem_cons_self ..),map_id (fun u hu=>h u (List.mem_cons_of_mem _ hu))]
theorem Good.back {b:ByteArray}{n:Nat}(g:Good b n)(hs:b.size≤2000) :
    ∃ S:ByteArray,enc (rts b n)=(S,0,0)∧S.size≤b.size∧NRp.out S=(rts b n,0,0)∧(rts b n).length≤100:=by
 have hn:=g.sz;have hl:(rts b n).length≤n:=q0g b n
 have hF:∀ e∈esK b n,Fit e∧ckE e=0:=fun e he=>by
  unfold esK at he;obtain⟨i,hi,rfl⟩:=List.mem_map.1 he;have hi:=List.mem_range.1 hi
  exact⟨g0v _ (by simp;omega),g.ck i hi⟩
 have hG:=o0m g.c (esK b n) a0c (by unfold nextB;rw[f0r];rfl) hF
 have hc:(at0 (rts b n) 0).cmd=bt b 0:=by
  have h0:0<(rts b n).length:=by have:=g.n0;omega
  rw[m0d _ 0 h0];exact(hG _ (List.getElem_mem h0)).2.1
 have W:Wrt (rts b n):=⟨by have:=g.n0;omega,fun m hm=>(hG m hm).1,fun m hm=>by rw[hc];exact(hG m hm).2.1⟩
 obtain⟨o1,o2⟩:=n0p W (by omega)
 refine⟨_,W.enc,?_,?_,by omega⟩
 · have:=u0r (bt b 0) (esK b n) a0c a0c (fun e he=>(hF e he).1)
   rw[if_pos rfl,x1b]at this
   show(wrtL (rts b n)).toArray.size≤_
   have:(entsL a0c (rts b n)).length≤n:=this;simp only[List.size_toArray];omega
 · rw[o1,hc,map_id (l:=rts b n) (fun m hm=>(hG m hm).2.2)]
end NMa
end Go.Proofs.YtllhobicfclheaaGreatDoor

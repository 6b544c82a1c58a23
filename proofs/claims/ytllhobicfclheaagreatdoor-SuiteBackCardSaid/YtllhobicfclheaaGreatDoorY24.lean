/-
  A part of a proof. No conditions.
-/
import Derived.Test.YtllhobicfclheaaGreatDoorY22
namespace Go.Proofs.YtllhobicfclheaaGreatDoor
open Go.ChangeShapes Go.WideShapes Go.ChangeAt Go.RowKit
set_option linter.unusedVariables false
set_option maxRecDepth 100000
set_option maxHeartbeats 51200000
namespace J1
open Ms S1 Lk Nu
open Cur (numL)
open Oct (fitsB)
open Own (k12 k13 ownM isKind fieldsOf)
open Bits (keepL r0a v0g c0m f0l mask x0n cleanZ)
open Pre (leastN cutL fillL b0c rightZ e0j)
open F1 (bt d0b o0b o0g p0f putB putO okT encT enc1 ok1 outT placed)
theorem c0a (a:ByteArray):a.data.toList.length=a.size:=by simp
theorem d0c (l:List UInt8):(ByteArray.mk l.toArray).size=l.length:=by show l.toArray.size=_;simp
theorem u1m (a:ByteArray):(⟨a.data.toList.toArray⟩:ByteArray)=a:=rfl
theorem k0r (l:List UInt8)(n:Nat)(h:n≤8*l.length):fillL (cutL l n) l.length=keepL l n:=by
 unfold fillL cutL leastN;rw[Int.toNat_natCast]
 have hk:(n+7) / 8≤l.length:=by omega
 have hl:(List.take ((n+7) / 8) (keepL l n)).length=(n+7) / 8:=by rw[List.length_take,r0a];omega
 rw[hl];apply List.ext_getElem
 · rw[List.length_append,hl,List.length_replicate,r0a];omega
 · intro i h1 h2;by_cases hi:i<(n+7) / 8
   · rw[List.getElem_append_left (by rw[hl];exact hi),List.getElem_take]
   · rw[List.getElem_append_right (by rw[hl];omega),List.getElem_replicate]
     apply UInt8.toNat_inj.1
     rw[v0g,show n - 8*i=0 by omega,x0n _ (UInt8.toNat_lt _)]
     rfl
theorem u0y (l:List UInt8)(n:Nat)(h4:l.length=4∨l.length=16)(h:n≤8*l.length):rightZ ⟨(keepL l n).toArray⟩ n=true:=by
 have hz:(ByteArray.mk (keepL l n).toArray).size=l.length:=by rw[d0c,r0a]
 unfold rightZ cleanZ;rw[hz,Int.toNat_natCast]
 have e:keepL (ByteArray.mk (keepL l n).toArray).data.toList n=(ByteArray.mk (keepL l n).toArray).data.toList:=by
  show keepL (keepL l n) n=_
  rw[c0m,Nat.min_self]
 rw[decide_eq_true e]
 rcases h4 with h4|h4<;>simp[h4]<;>omega
theorem m0h (a b:List UInt8)(n:Nat):keepL (a++b) n=keepL a n++keepL b (n - 8*a.length):=by
 unfold keepL;rw[List.mapIdx_append];congr 2;funext i b
 rw[show n - 8*(i+a.length)=n - 8*a.length - 8*i by omega]
def minA (ae:Int):Int:=if ae=3 then 64 else 0
def maxA (ae:Int):Int:=if ae=0 then 0 else if ae=1 then 32 else 128
def lenB (ae p:Int):Bool:=decide (0≤ae)&&(decide (ae≤3)&&(decide (minA ae≤p)&&decide (p≤maxA ae)))
def baseN (ae:Int):Nat:=if ae=3 then 8 else 0
def countN (ae p:Int):Nat:=leastN p - baseN ae
def adrB (ae:Int)(a:ByteArray):Bool:=if ae=0 then decide (a.size=0)else if ae=1 then decide (a.size=4)else if ae=2 then decide (a.size=16)else if ae=3 then link a else false
def inB (ae:Int)(a:ByteArray)(p:Int):Bool:=adrB ae a&&(lenB ae p&&(decide (ae=0)||rightZ a p))
def cutP (ae:Int)(a:ByteArray)(p:Int):ByteArray:=⟨((cutL a.data.toList p).drop (baseN ae)).toArray⟩
def wholeL (ae:Int)(s:ByteArray):List UInt8:=if ae=1 then fillL s.data.toList 4 else if ae=2 then fillL s.data.toList 16 else if ae=3 then lkH.data.toList++fillL s.data.toList 8 else []
def wholeP (ae:Int)(s:ByteArray)(p:Int):ByteArray:=⟨(keepL (wholeL ae s) p.toNat).toArray⟩
theorem len_cases {ae p:Int}(h:lenB ae p=true):(ae=0∧p=0)∨(ae=1∧0≤p∧p≤32)∨(ae=2∧0≤p∧p≤128)∨(ae=3∧64≤p∧p≤128):=by
 unfold lenB at h;refine' qzcs;obtain⟨h0,h1,h2,h3⟩:=h
 rcases(show ae=0∨ae=1∨ae=2∨ae=3 by omega)with rfl|rfl|rfl|rfl
 · have h2:(0:Int)≤p:=h2;have h3:p≤(0:Int):=h3
   exact .inl ⟨rfl,by omega⟩
 · exact .inr (.inl ⟨rfl,h2,h3⟩)
 · exact .inr (.inr (.inl ⟨rfl,h2,h3⟩))
 · exact .inr (.inr (.inr ⟨rfl,h2,h3⟩))
theorem q0b {ae p:Int}(h:lenB ae p=true):0≤ae∧ae≤3∧0≤p∧p≤128:=by
 rcases len_cases h with⟨rfl,rfl⟩|⟨rfl,a,b⟩|⟨rfl,a,b⟩|⟨rfl,a,b⟩<;>omega
theorem count_le {ae p:Int}(h:lenB ae p=true):countN ae p≤16∧countN ae p+baseN ae=leastN p:=by
 rcases len_cases h with⟨rfl,rfl⟩|⟨rfl,a,b⟩|⟨rfl,a,b⟩|⟨rfl,a,b⟩<;>(unfold countN baseN leastN;simp<;>omega)
theorem m0k {a:ByteArray}{p:Int}(h:rightZ a p=true):0≤p∧p≤8*(a.size:Int)∧keepL a.data.toList p.toNat=a.data.toList:=by
 unfold rightZ cleanZ at h;refine' qzcs;exact h.2
theorem r0b {ae:Int}{a:ByteArray}{p:Int}(h:inB ae a p=true):lenB ae p=true∧((ae=0∧a.size=0)∨((ae=1∧a.size=4∨ae=2∧a.size=16∨ae=3∧link a=true)∧p≤8*(a.size:Int)∧keepL a.data.toList p.toNat=a.data.toList)):=by
 unfold inB at h;simp only[Bool.and_eq_true]at h;obtain⟨h0,h1,h2⟩:=h;refine⟨h1,?_⟩
 rcases len_cases h1 with⟨rfl,_⟩|⟨rfl,_⟩|⟨rfl,_⟩|⟨rfl,_⟩
 · exact .inl ⟨rfl,by simpa[adrB]using h0⟩
 · exact .inr ⟨.inl ⟨rfl,by simpa[adrB]using h0⟩,(m0k (by simpa using h2)).2⟩
 · exact .inr ⟨.inr (.inl ⟨rfl,by simpa[adrB]using h0⟩),(m0k (by simpa using h2)).2⟩
 · exact .inr ⟨.inr (.inr ⟨rfl,by simpa[adrB]using h0⟩),(m0k (by simpa using h2)).2⟩
theorem u0m {l:List UInt8}{p:Int}(h:keepL l p.toNat=l):cutL l p=l.take (leastN p):=by unfold cutL;rw[h]
theorem j1d {a:ByteArray}(h:link a=true):a.data.toList.take 8=lkH.data.toList:=by
 have:=congrArg (fun x:ByteArray=>x.data.toList) (l0s h)
 simp only[n0a,List.drop_zero]at this;exact this
theorem t0e {ae:Int}{a:ByteArray}{p:Int}(h:inB ae a p=true):(cutP ae a p).size=countN ae p:=by
 obtain⟨hl,hc⟩:=r0b h;have hr:=q0b hl;unfold cutP;rw[d0c,List.length_drop];unfold cutL countN;rw[List.length_take,r0a,c0a]
 rcases hc with⟨rfl,h0⟩|⟨hc,h8,_⟩
 · rcases len_cases hl with⟨_,rfl⟩|⟨h,_⟩|⟨h,_⟩|⟨h,_⟩
   · rw[h0];rfl
   all_goals omega
 · have:leastN p≤a.size:=by unfold leastN;omega
   rw[Nat.min_eq_left this]
theorem z0s {ae:Int}{a:ByteArray}{p:Int}(h:inB ae a p=true):wholeP ae (cutP ae a p) p=a:=by
 obtain⟨hl,hc⟩:=r0b h;have hr:=q0b hl
 rcases hc with⟨rfl,h0⟩|⟨hc,h8,hk⟩
 · have e:a.data.toList = []:=List.length_eq_zero_iff.1 (by rw[c0a];exact h0)
   exact k0a (by rw[e];rfl)
 have hn:((p.toNat:Nat):Int)=p:=by omega
 have hf:fillL (a.data.toList.take (leastN p)) a.size=a.data.toList:=by
  have:=k0r a.data.toList p.toNat (by rw[c0a];omega)
  rw[hn,u0m hk,c0a,hk]at this;exact this
 refine k0a ?_;unfold wholeP
 show keepL (wholeL ae (cutP ae a p)) p.toNat=a.data.toList
 have hz:wholeL ae (cutP ae a p)=a.data.toList:=by
  rcases hc with⟨rfl,hs⟩|⟨rfl,hs⟩|⟨rfl,hs⟩
  · show fillL ((cutL a.data.toList p).drop 0) 4=_
    rw[List.drop_zero,u0m hk,←hs];exact hf
  · show fillL ((cutL a.data.toList p).drop 0) 16=_
    rw[List.drop_zero,u0m hk,←hs];exact hf
  · show lkH.data.toList++fillL ((cutL a.data.toList p).drop 8) 8=_
    rw[i0d hs]at hf
    rcases len_cases hl with⟨h,_⟩|⟨h,_⟩|⟨h,_⟩|⟨_,h1,h2⟩
    · omega
    · omega
    · omega
    have hk8:8≤leastN p:=by unfold leastN;omega
    have hk16:leastN p≤16:=by unfold leastN;omega
    have ht:=List.take_append_drop 8 (a.data.toList.take (leastN p));rw[List.take_take,Nat.min_eq_left hk8,j1d hs]at ht
    have hlen:(a.data.toList.take (leastN p)).length=leastN p:=by rw[List.length_take,c0a,i0d hs];omega
    rw[u0m hk];refine Eq.trans ?_ hf;unfold fillL
    rw[←List.append_assoc,ht,List.length_drop,hlen,show 8 - (leastN p - 8)=16 - leastN p by omega]
 rw[hz,hk]
theorem j0t {ae:Int}{s:ByteArray}{p:Int}(hl:lenB ae p=true)(hs:s.size=countN ae p):(wholeL ae s).length=if ae=0 then 0 else if ae=1 then 4 else 16:=by
 rcases len_cases hl with⟨rfl,rfl⟩|⟨rfl,a,b⟩|⟨rfl,a,b⟩|⟨rfl,a,b⟩
 · rfl
 · show(fillL s.data.toList 4).length=4
   exact b0c _ _ (by rw[c0a,hs];unfold countN leastN;omega)
 · show(fillL s.data.toList 16).length=16
   exact b0c _ _ (by rw[c0a,hs];unfold countN leastN;omega)
 · show(lkH.data.toList++fillL s.data.toList 8).length=16
   rw[List.length_append,b0c _ _ (by rw[c0a,hs];unfold countN leastN baseN;simp;omega)]
   rfl
theorem s0w {ae:Int}{s:ByteArray}{p:Int}(hl:lenB ae p=true)(hs:s.size=countN ae p):inB ae (wholeP ae s p) p=true:=by
 have hn:=j0t hl hs;unfold inB;rw[hl]
 have hz:(wholeP ae s p).size=(wholeL ae s).length:=by unfold wholeP;rw[d0c,r0a]
 have hr:∀ (h4:(wholeL ae s).length=4∨(wholeL ae s).length=16),0≤p→p≤8*((wholeL ae s).length:Int)→rightZ (wholeP ae s p) p=true:=fun h4 h0 h8=>by
  have:=u0y (wholeL ae s) p.toNat h4 (by omega)
  rw[Int.toNat_of_nonneg h0]at this;exact this
 rcases len_cases hl with⟨rfl,rfl⟩|⟨rfl,a,b⟩|⟨rfl,a,b⟩|⟨rfl,a,b⟩
 · rfl
 · rw[show adrB 1 (wholeP 1 s p)=true from decide_eq_true (by rw[hz,hn];rfl),hr (.inl hn) a (by rw[hn];exact b)];rfl
 · rw[show adrB 2 (wholeP 2 s p)=true from decide_eq_true (by rw[hz,hn];rfl),hr (.inr hn) a (by rw[hn];exact b)];rfl
 · have hk:link (wholeP 3 s p)=true:=by
    rw[p0j (by rw[hz,hn];rfl)]
    unfold lkB
    have e:(wholeP 3 s p).extract 0 8=lkH:=k0a (by
     rw[n0a,List.drop_zero]
     show(keepL (lkH.data.toList++fillL s.data.toList 8) p.toNat).take 8=_
     rw[m0h,f0l _ _ (by show 8*8≤p.toNat;omega)]
     exact List.take_left' rfl)
    rw[e,ByteArray.toList_eq];rfl
   rw[show adrB 3 (wholeP 3 s p)=true from hk,hr (.inr hn) (by omega) (by rw[hn];exact b)];rfl
theorem m0w {s:List UInt8}{p:Int}{m:Nat}(h0:0≤p)(h8:p≤8*(m:Int))(hs:s.length=leastN p):fillL (cutL s p) m=keepL (fillL s m) p.toNat:=by
 have hm:s.length≤m:=by rw[hs];unfold leastN;omega
 have hl:=b0c s m hm
 have:=k0r (fillL s m) p.toNat (by rw[hl];omega)
 rw[hl,Int.toNat_of_nonneg h0]at this;rw[←this];congr 1;unfold cutL;rw[←e0j,←e0j];congr 1;unfold fillL;rw[←hs,List.take_left,List.take_length]
theorem e0z {l:List UInt8}{p:Int}(h0:0≤p)(h8:p≤128)(hl:l.length=16):fillL (cutL l p) 16=keepL l p.toNat:=by
 have:=k0r l p.toNat (by omega)
 rw[hl,Int.toNat_of_nonneg h0]at this;exact this
def bare (m:M):Bool:=isKind m&&M.same m (ownM m)
theorem j0o {m:M}(h:m.kind=12):isKind m=true∧ownM m={ k12 m with kind:=m.kind}:=by
 refine' qzp
theorem s0o {m:M}(h:m.kind=13):isKind m=true∧ownM m={ k13 m with kind:=m.kind}:=by
 refine' qzp
def seqB (m:M):Bool:=!decide (m.ae=0)&&(fitsB m.seq 2&&(decide (m.id.size=8)&&(decide (1≤m.hops)&&fitsB m.hops 1)))
def kindB (m:M):Bool:=if m.kind=12 then true else if m.kind=13 then seqB m else false
def okJ (m:M):Bool:=bare m&&(inB m.ae m.pfx m.plen&&(okS m.sl&&kindB m))
def typJ (m:M):Int:=if m.kind=12 then 9 else 10
def fld9 (m:M):List UInt8:=layN m.ae 1++layN m.plen 1
def t0h (m:M):List UInt8:=layN m.ae 1++(layN m.plen 1++(layN m.seq 2++(layN m.hops 1++(0::m.id.data.toList))))
def fldJ (m:M):List UInt8:=if m.kind=12 then fld9 m else t0h m
def datJ (m:M):ByteArray:=⟨(fldJ m++((cutP m.ae m.pfx m.plen).data.toList++(putS m.sl).data.toList)).toArray⟩
def putJ (m:M):ByteArray:=if okJ m then putO (typJ m) (datJ m)else⟨#[]⟩
theorem j0x {m:M}(h:okJ m=true):putJ m=putO (typJ m) (datJ m):=by unfold putJ;rw[if_pos h]
theorem e1n {m:M}(h:okJ m=false):putJ m=⟨#[]⟩:=by unfold putJ;rw[if_neg (by rw[h];exact Bool.false_ne_true)]
structure Ok (m:M):Prop where
  bare:bare m=true
  pfx:inB m.ae m.pfx m.plen=true
  subs:okS m.sl=true
  kind:kindB m=true
theorem x0a (m:M):okJ m=true↔Ok m:=by
 unfold okJ;simp only[Bool.and_eq_true]
 exact⟨fun⟨a,b,c,d⟩=>⟨a,b,c,d⟩,fun⟨a,b,c,d⟩=>⟨a,b,c,d⟩⟩
structure Seq (m:M):Prop where
  ae:¬m.ae=0
  seq:fitsB m.seq 2=true
  id:m.id.size=8
  low:1≤m.hops
  hops:fitsB m.hops 1=true
theorem v0u (m:M):seqB m=true↔Seq m:=by
 unfold seqB;simp only[Bool.and_eq_true,Bool.not_eq_true',decide_eq_true_eq,decide_eq_false_iff_not]
 exact⟨fun⟨a,b,c,d,e⟩=>⟨a,b,c,d,e⟩,fun⟨a,b,c,d,e⟩=>⟨a,b,c,d,e⟩⟩
theorem kind_cases {m:M}(h:kindB m=true):m.kind=12∨(m.kind=13∧Seq m):=by
 unfold kindB at h;split at h
 · rename_i h1;exact .inl h1
 split at h
 · rename_i h1 h2;exact .inr ⟨h2,(v0u m).1 h⟩
 · cases h
theorem d0n {n:Int}(h0:0≤n)(h1:n<256):fitsB n 1=true:=(Oct.e0b n 1).2 ⟨by omega,by omega,h0,by simpa[Oct.pw]using h1⟩
theorem f_12 {m:M}(h:m.kind=12):typJ m=9∧fldJ m=fld9 m:=by unfold typJ fldJ;rw[if_pos h,if_pos h];exact⟨rfl,rfl⟩
theorem f_13 {m:M}(h:m.kind=13):typJ m=10∧fldJ m=t0h m:=by unfold typJ fldJ;rw[if_neg (by omega),if_neg (by omega)];exact⟨rfl,rfl⟩
def szJ (t:Int):Nat:=if t=10 then 14 else 2
theorem q1k (t:Int):szJ t≤14∧2≤szJ t:=by unfold szJ;split<;>omega
theorem u0d {m:M}(h:okJ m=true):(fldJ m).length=szJ (typJ m)∧(typJ m=9∨typJ m=10):=by
 obtain⟨_,hp,_,hk⟩:=(x0a m).1 h;obtain⟨hl,_⟩:=r0b hp;obtain⟨a0,a1,p0,p1⟩:=q0b hl
 have l1:=s0a (d0n (n:=m.ae) a0 (by omega))
 have l2:=s0a (d0n (n:=m.plen) p0 (by omega))
 rcases kind_cases hk with k|⟨k,q⟩
 · rw[(f_12 k).1,(f_12 k).2];unfold fld9;exact⟨by rw[List.length_append,l1,l2];rfl,.inl rfl⟩
 · rw[(f_13 k).1,(f_13 k).2];unfold t0h;refine⟨?_,.inr rfl⟩;have:=q.id;rw[List.length_append,List.length_append,List.length_append,List.length_append,List.length_cons,l1,l2,s0a q.seq,s0a q.hops,c0a,this];rfl
theorem m0i (m:M):(datJ m).size=(fldJ m).length+((cutP m.ae m.pfx m.plen).size+(putS m.sl).size):=by
 unfold datJ;rw[d0c,List.length_append,List.length_append,c0a,c0a]
theorem v0l {m:M}(h:okJ m=true):(datJ m).size≤230:=by
 obtain⟨_,hp,_,_⟩:=(x0a m).1 h;have h1:=(u0d h).1;have h2:=m0g m.sl;have h3:=(count_le (r0b hp).1).1;have h4:=(q1k (typJ m)).1;rw[m0i,t0e hp,h1];omega
theorem h0q {m:M}(h:okJ m=true):putB (typJ m) (datJ m)=true:=by
 have h1:=(u0d h).2;have h2:=v0l h;unfold putB
 rcases h1 with h1|h1<;>rw[h1]<;>simp<;>omega
theorem j0p {m:M}(h:okJ m=true):(putJ m).data.toList=enc1 (datJ m,typJ m)∧ok1 (datJ m,typJ m):=by
 have h1:=(u0d h).2;have h2:=v0l h
 have ho:ok1 (datJ m,typJ m):=⟨by show 0≤typJ m;omega,by show typJ m≤255;omega,by show(datJ m).size≤255;omega,fun e=>by have:typJ m=0:=e;omega⟩
 refine⟨?_,ho⟩
 rw[j0x h,(F1.w0e ho (by show ¬typJ m=0;omega)).2]
theorem d1f {m:M}(h:okJ m=true):(putJ m).size=2+(szJ (typJ m)+(countN m.ae m.plen+(putS m.sl).size)):=by
 have h1:=(u0d h).2
 rw[←c0a,(j0p h).1,F1.l0b,if_neg (by show ¬typJ m=0;omega)]
 show 2+(datJ m).size=_
 rw[m0i,(u0d h).1,t0e ((x0a m).1 h).pfx]
structure En where
  bytes:ByteArray
  sl:List El
  known:Bool
def En.zero:En:=⟨ByteArray.empty,[],false⟩
def restN (z:Nat)(ae p om:Int):Nat:=z+(countN ae p - om.toNat)
noncomputable def endE (s:ByteArray)(z:Nat)(ae p om:Int):En×Bool×Int:=
  if s.size<z then(En.zero,false,2)
  else if 3<ae then(En.zero,false,0)
  else if lenB ae p=false∨(countN ae p:Int)<om then(En.zero,false,6)
  else if s.size<restN z ae p om then(En.zero,false,2)
  else if(outS (s.extract (restN z ae p om) s.size)).2.2=0 then(⟨s.extract z (restN z ae p om),(outS (s.extract (restN z ae p om) s.size)).1,(outS (s.extract (restN z ae p om) s.size)).2.1⟩,true,0)
  else(En.zero,false,(outS (s.extract (restN z ae p om) s.size)).2.2)
section
variable {s:ByteArray} {z:Nat} {ae p om:Int}
theorem t0g (h:s.size<z):endE s z ae p om=(En.zero,false,2):=by unfold endE;rw[if_pos h]
theorem c0x (h:¬s.size<z)(k:3<ae):endE s z ae p om=(En.zero,false,0):=by unfold endE;rw[if_neg h,if_pos k]
theorem y0k (h:¬s.size<z)(k:¬3<ae)(g:lenB ae p=false∨(countN ae p:Int)<om):endE s z ae p om=(En.zero,false,6):=by unfold endE;rw[if_neg h,if_neg k,if_pos g]
theorem s1b (h:¬s.size<z)(k:¬3<ae)(g1:lenB ae p=true)(g2:¬(countN ae p:Int)<om)(c:s.size<restN z ae p om):endE s z ae p om=(En.zero,false,2):=by
 unfold endE;rw[if_neg h,if_neg k,if_neg (by rw[g1];simpa using g2),if_pos c]
theorem t1b {l:List El}{b:Bool}{e:Int}(h:¬s.size<z)(k:¬3<ae)(g1:lenB ae p=true)(g2:¬(countN ae p:Int)<om)(c:¬s.size<restN z ae p om)(o:outS (s.extract (restN z ae p om) s.size)=(l,b,e))(n:¬e=0):endE s z ae p om=(En.zero,false,e):=by
 unfold endE;rw[if_neg h,if_neg k,if_neg (by rw[g1];simpa using g2),if_neg c,o,if_neg n]
theorem f0p {l:List El}{b:Bool}(h:¬s.size<z)(k:¬3<ae)(g1:lenB ae p=true)(g2:¬(countN ae p:Int)<om)(c:¬s.size<restN z ae p om)(o:outS (s.extract (restN z ae p om) s.size)=(l,b,0)):endE s z ae p om=(⟨s.extract z (restN z ae p om),l,b⟩,true,0):=by
 unfold endE;rw[if_neg h,if_neg k,if_neg (by rw[g1];simpa using g2),if_neg c,o,if_pos rfl]
structure Got (s:ByteArray)(z:Nat)(ae p om:Int)(x:En):Prop where
  eq:endE s z ae p om=(x,true,0)
  size:restN z ae p om≤s.size
  ae3:¬3<ae
  len:lenB ae p=true
  omle:om≤countN ae p
  bytes:x.bytes=s.extract z (restN z ae p om)
  sub:outS (s.extract (restN z ae p om) s.size)=(x.sl,x.known,0)
  subs:okS x.sl=true
  fit:restN z ae p om+(putS x.sl).size≤s.size
theorem end_cases (s:ByteArray)(z:Nat)(ae p om:Int):(∃ e,endE s z ae p om=(En.zero,false,e))∨∃ x,Got s z ae p om x:=by
 by_cases h:s.size<z
 · exact .inl ⟨_,t0g h⟩
 by_cases k:3<ae
 · exact .inl ⟨_,c0x h k⟩
 cases g1:lenB ae p
 · exact .inl ⟨_,y0k h k (.inl g1)⟩
 by_cases g2:(countN ae p:Int)<om
 · exact .inl ⟨_,y0k h k (.inr g2)⟩
 by_cases c:s.size<restN z ae p om
 · exact .inl ⟨_,s1b h k g1 g2 c⟩
 have hz:=t1c (s.extract (restN z ae p om) s.size);obtain⟨⟨l,b,e⟩,ho⟩:∃ q,outS (s.extract (restN z ae p om) s.size)=q:=⟨_,rfl⟩;rw[ho]at hz;by_cases n:e=0
 · subst n;have h2:(putS l).size≤(s.extract (restN z ae p om) s.size).size:=hz.2
   have h3:(s.extract (restN z ae p om) s.size).size=s.size - restN z ae p om:=by simp
   exact .inr ⟨_,f0p h k g1 g2 c ho,by omega,k,g1,by omega,rfl,ho,hz.1,by show _+(putS l).size≤_;omega⟩
 · exact .inl ⟨_,t1b h k g1 g2 c ho n⟩
end
def num2 (d:ByteArray)(a:Nat):Int:=((numL ((d.data.toList.drop a).take 2):Nat):Int)
def hd9 (d:ByteArray):M:={ M.zero with kind:=12,ae:=bt d 0,plen:=bt d 1}
def hd10 (d:ByteArray):M:={ M.zero with kind:=13,ae:=bt d 0,plen:=bt d 1,seq:=num2 d 2,hops:=bt d 4,id:=d.extract 6 14}
def hdJ (t:Int)(d:ByteArray):M:=if t=10 then hd10 d else hd9 d
noncomputable def outJ (t:Int)(d:ByteArray):M×Bool×Int:=
  if(endE d (szJ t) (bt d 0) (bt d 1) 0).2.1=true∧(endE d (szJ t) (bt d 0) (bt d 1) 0).1.known=true∧kindB (hdJ t d)=true
  then({ hdJ t d with pfx:=wholeP (bt d 0) (endE d (szJ t) (bt d 0) (bt d 1) 0).1.bytes (bt d 1),sl:=(endE d (szJ t) (bt d 0) (bt d 1) 0).1.sl},true,0)
  else(M.zero,false,(endE d (szJ t) (bt d 0) (bt d 1) 0).2.2)
theorem u0e {t:Int}{d:ByteArray}{e:Int}(h:endE d (szJ t) (bt d 0) (bt d 1) 0=(En.zero,false,e)):outJ t d=(M.zero,false,e):=by
 unfold outJ;rw[h,if_neg (fun x=>by cases x.1)]
theorem z1b {t:Int}{d:ByteArray}{x:En}(h:endE d (szJ t) (bt d 0) (bt d 1) 0=(x,true,0))(k:¬(x.known=true∧kindB (hdJ t d)=true)):outJ t d=(M.zero,false,0):=by
 unfold outJ;rw[h,if_neg (fun y=>k y.2)]
theorem u0a {t:Int}{d:ByteArray}{x:En}(h:endE d (szJ t) (bt d 0) (bt d 1) 0=(x,true,0))(k:x.known=true)(q:kindB (hdJ t d)=true):outJ t d=({ hdJ t d with pfx:=wholeP (bt d 0) x.bytes (bt d 1),sl:=x.sl},true,0):=by
 unfold outJ;rw[h,if_pos ⟨rfl,k,q⟩]
theorem m0e {d:ByteArray}{a:Nat}{v:Int}(h:(d.data.toList.drop a).take 2=layN v 2)(hf:fitsB v 2=true):num2 d a=v:=by unfold num2;rw[h];exact c0f hf
theorem t0d {d:ByteArray}{a:Nat}(h:a+2≤d.size):fitsB (num2 d a) 2=true:=v0f _ 2 (by rw[List.length_take,List.length_drop,c0a];omega) (by omega) (by omega)
theorem f0g (d:ByteArray)(a:Nat):(d.extract a d.size).data.toList=d.data.toList.drop a:=by
 rw[n0a,List.take_of_length_le (by rw[List.length_drop,c0a];exact Nat.le_refl _)]
theorem e0f {v:Int}(h0:0≤v)(h1:v<256):∃ c:UInt8,layN v 1 = [c]∧(c.toNat:Int)=v:=by
 have hf:=d0n h0 h1;have:=s0a hf;have e:=c0f hf
 match layN v 1,this,e with
 | [c],_,e=>exact⟨c,rfl,by rw[←e];simp[numL]⟩
theorem k0c {m:M}(h:okJ m=true):outJ (typJ m) (datJ m)=({ ownM m with sa:=none,sc:=0},true,0):=by
 obtain⟨_,hp,hx,hk⟩:=(x0a m).1 h;have hl:(datJ m).data.toList=fldJ m++((cutP m.ae m.pfx m.plen).data.toList++(putS m.sl).data.toList):=rfl;have hf:=(u0d h).1;have hlen:=(r0b hp).1;obtain⟨a0,a1,p0,p1⟩:=q0b hlen;have hc:=t0e hp;have hw:=z0s hp;have hz:=m0i m;generalize datJ m=d at *
 have hr:restN (szJ (typJ m)) m.ae m.plen 0=(fldJ m).length+countN m.ae m.plen:=by unfold restN;rw[hf];rfl
 -- what stands behind the fields
 have hend:bt d 0=m.ae→bt d 1=m.plen→endE d (szJ (typJ m)) (bt d 0) (bt d 1) 0=(⟨cutP m.ae m.pfx m.plen,m.sl,true⟩,true,0):=fun b0 b1=>by
  rw[b0,b1]
  have e1:d.extract (restN (szJ (typJ m)) m.ae m.plen 0) d.size=putS m.sl:=k0a (by
   rw[f0g,hr,hl,←List.drop_drop,List.drop_left,←hc,←c0a]
   exact List.drop_left ..)
  have e2:d.extract (szJ (typJ m)) (restN (szJ (typJ m)) m.ae m.plen 0)=cutP m.ae m.pfx m.plen:=k0a (by
   rw[n0a,hr,hl,←hf,List.drop_left,Nat.add_sub_cancel_left,←hc,←c0a]
   exact List.take_left ..)
  have:=f0p (s:=d) (z:=szJ (typJ m)) (ae:=m.ae) (p:=m.plen) (om:=0) (l:=m.sl) (b:=true) (by rw[←hf];omega) (by omega) hlen (by omega) (by rw[hr];omega) (by rw[e1];exact q0f hx)
  rw[e2]at this;exact this
 obtain⟨ca,ha,hca⟩:=e0f (v:=m.ae) a0 (by omega)
 obtain⟨cp,hpl,hcp⟩:=e0f (v:=m.plen) p0 (by omega)
 rcases kind_cases hk with k|⟨k,q⟩
 · rw[(f_12 k).2]at hl;rw[(f_12 k).1]at hend⊢;rw[(j0o k).2]
   have e:d.data.toList=ca::cp::((cutP m.ae m.pfx m.plen).data.toList++(putS m.sl).data.toList):=by rw[hl];simp[fld9,ha,hpl]
   have b0:bt d 0=m.ae:=by unfold bt;rw[e];exact hca
   have b1:bt d 1=m.plen:=by unfold bt;rw[e];exact hcp
   rw[u0a (hend b0 b1) rfl (by rfl),b0,b1,hw]
   rw[show hdJ 9 d=hd9 d from rfl]
   unfold hd9;rw[b0,b1,k];rfl
 · rw[(f_13 k).2]at hl;rw[(f_13 k).1]at hend⊢;rw[(s0o k).2]
   obtain⟨ch,hh,hch⟩:=e0f (v:=m.hops) (by have:=q.low;omega) (by have:=((Oct.e0b _ _).1 q.hops).2.2.2;simpa[Oct.pw]using this)
   obtain⟨s0,s1,hs⟩:∃ s0 s1,layN m.seq 2 = [s0,s1]:=by
    have:=s0a q.seq
    match layN m.seq 2,this with
    | [a,b],_=>exact⟨a,b,rfl⟩
   have e:d.data.toList=ca::cp::s0::s1::ch::0::(m.id.data.toList++((cutP m.ae m.pfx m.plen).data.toList++(putS m.sl).data.toList)):=by rw[hl];simp[t0h,ha,hpl,hh,hs]
   have b0:bt d 0=m.ae:=by unfold bt;rw[e];exact hca
   have b1:bt d 1=m.plen:=by unfold bt;rw[e];exact hcp
   have b4:bt d 4=m.hops:=by unfold bt;rw[e];exact hch
   have n2:num2 d 2=m.seq:=m0e (by rw[e,hs];rfl) q.seq
   have ei:d.extract 6 14=m.id:=k0a (by
    rw[n0a,e]
    show List.take 8 (m.id.data.toList++_)=_
    rw[←q.id,←c0a]
    exact List.take_left ..)
   have hh10:hdJ 10 d={ M.zero with kind:=13,ae:=m.ae,plen:=m.plen,seq:=m.seq,hops:=m.hops,id:=m.id}:=by
    show hd10 d=_
    unfold hd10;rw[b0,b1,b4,n2,ei]
   rw[u0a (hend b0 b1) rfl (by rw[hh10];show seqB _=true;exact(v0u _).2 ⟨q.ae,q.seq,q.id,q.low,q.hops⟩),b0,b1,hw,hh10,k]
   rfl
theorem p0p {m:M}(h:okJ m=true):M.same m { ownM m with sa:=none,sc:=0}=true∧(ownM m).la=none∧(ownM m).ll = []∧(ownM m).lc=0∧(ownM m).sl=m.sl:=by
 obtain⟨hb,_,_,hk⟩:=(x0a m).1 h
 have h1:M.same m (ownM m)=true:=by unfold bare at hb;simp at hb;exact hb.2
 refine⟨h1,?_⟩
 rcases kind_cases hk with k|⟨k,_⟩
 · rw[(j0o k).2];exact⟨rfl,rfl,rfl,rfl⟩
 · rw[(s0o k).2];exact⟨rfl,rfl,rfl,rfl⟩
theorem a0h (d:ByteArray)(a b:Nat)(h:b≤d.size):(d.extract a b).size=b - a:=by simp;omega
theorem k1o (d:ByteArray):kindB (hdJ 10 d)=seqB (hd10 d):=rfl
theorem u0z {t:Int}{d:ByteArray}{x:En}(ht:t=9∨t=10)(g:Got d (szJ t) (bt d 0) (bt d 1) 0 x)(hk:kindB (hdJ t d)=true) :
    okJ { hdJ t d with pfx:=wholeP (bt d 0) x.bytes (bt d 1),sl:=x.sl}=true∧(putJ { hdJ t d with pfx:=wholeP (bt d 0) x.bytes (bt d 1),sl:=x.sl}).size≤d.size+2:=by
 have hb:x.bytes.size=countN (bt d 0) (bt d 1):=by
  rw[g.bytes,a0h _ _ _ g.size];unfold restN;rw[Nat.add_sub_cancel_left];rfl
 have hi:=s0w g.len hb;have hg:=g.fit;have hr:restN (szJ t) (bt d 0) (bt d 1) 0=szJ t+countN (bt d 0) (bt d 1):=rfl
 have fin:∀ r:M,okJ r=true→szJ (typJ r)=szJ t→r.ae=bt d 0→r.plen=bt d 1→r.sl=x.sl→okJ r=true∧(putJ r).size≤d.size+2:=fun r ho h1 h2 h3 h4=>⟨ho,by rw[d1f ho,h1,h2,h3,h4];omega⟩
 rcases ht with rfl|rfl
 · refine fin _ ((x0a _).2 ⟨?_,hi,g.subs,rfl⟩) rfl rfl rfl rfl;unfold bare;rw[(j0o rfl).1,(j0o rfl).2];unfold M.same M.flatE k12 hdJ hd9 M.zero;simp
 · have q:=(v0u _).1 ((k1o d).symm.trans hk);refine fin _ ((x0a _).2 ⟨?_,hi,g.subs,?_⟩) rfl rfl rfl rfl
   · unfold bare;rw[(s0o rfl).1,(s0o rfl).2];unfold M.same M.flatE k13 hdJ hd10 M.zero;simp
   · exact hk
theorem out_cases {t:Int}{d:ByteArray}(ht:t=9∨t=10):(∃ e,outJ t d=(M.zero,false,e))∨
    ∃ x,Got d (szJ t) (bt d 0) (bt d 1) 0 x∧x.known=true∧kindB (hdJ t d)=true∧outJ t d=({ hdJ t d with pfx:=wholeP (bt d 0) x.bytes (bt d 1),sl:=x.sl},true,0)∧okJ { hdJ t d with pfx:=wholeP (bt d 0) x.bytes (bt d 1),sl:=x.sl}=true∧(putJ { hdJ t d with pfx:=wholeP (bt d 0) x.bytes (bt d 1),sl:=x.sl}).size≤d.size+2:=by
 rcases end_cases d (szJ t) (bt d 0) (bt d 1) 0 with⟨e,h⟩|⟨x,g⟩
 · exact .inl ⟨e,u0e h⟩
 by_cases k:x.known=true∧kindB (hdJ t d)=true
 · exact .inr ⟨x,g,k.1,k.2,u0a g.eq k.1 k.2,u0z ht g k.2⟩
 · exact .inl ⟨0,z1b g.eq k⟩
theorem d1s (t:Int)(d:ByteArray):(hdJ t d).la=none∧(hdJ t d).ll = []∧(hdJ t d).lc=0:=by unfold hdJ;split<;>exact⟨rfl,rfl,rfl⟩
theorem k0g (t:Int)(d:ByteArray)(ht:t=9∨t=10):(outJ t d).1.la=none∧(outJ t d).1.ll = []∧(outJ t d).1.lc=0∧(outJ t d).1.sl.length≤100∧∀ x∈(outJ t d).1.sl,x.1.size≤1099511627776:=by
 rcases out_cases (d:=d) ht with⟨e,h⟩|⟨x,g,_,_,h,_,_⟩
 · rw[h];exact⟨rfl,rfl,rfl,Nat.zero_le _,fun x hx=>absurd hx (by show ¬x∈([]:List El);simp)⟩
 · rw[h];obtain⟨ha,hb,hc⟩:=d1s t d;exact⟨ha,hb,hc,u0u g.subs,h0u g.subs⟩
structure Up where
  ae:Int
  flags:Int
  plen:Int
  om:Int
  iv:Int
  seq:Int
  metric:Int
  hav:Int
  bytes:ByteArray
  sa:Option Addr
  sl:List El
  sc:Nat
def Up.zero:Up:=⟨0,0,0,0,0,0,0,0,ByteArray.empty,none,[],0⟩
def Up.cells (x:Up):Array Value:=#[.int .i64 x.ae,.int .i64 x.flags,.int .i64 x.plen,.int .i64 x.om,.int .i64 x.iv,.int .i64 x.seq,.int .i64 x.metric,.int .i64 x.hav,.string x.bytes,.slice x.sa x.sl.length x.sc]
def hdK (d:ByteArray):Up:={ Up.zero with ae:=bt d 0,flags:=bt d 1,plen:=bt d 2,om:=bt d 3,iv:=num2 d 4,seq:=num2 d 6,metric:=num2 d 8}
noncomputable def outK (d:ByteArray):Up×Bool×Int:=
  if(endE d 10 (bt d 0) (bt d 2) (bt d 3)).2.1=true
  then({ hdK d with hav:=if(endE d 10 (bt d 0) (bt d 2) (bt d 3)).1.known then 1 else 0,bytes:=(endE d 10 (bt d 0) (bt d 2) (bt d 3)).1.bytes,sl:=(endE d 10 (bt d 0) (bt d 2) (bt d 3)).1.sl},true,0)
  else(Up.zero,false,(endE d 10 (bt d 0) (bt d 2) (bt d 3)).2.2)
theorem e0v {d:ByteArray}{e:Int}(h:endE d 10 (bt d 0) (bt d 2) (bt d 3)=(En.zero,false,e)):outK d=(Up.zero,false,e):=by
 unfold outK;rw[h,if_neg (fun x=>by cases x)]
theorem m0q {d:ByteArray}{x:En}(h:endE d 10 (bt d 0) (bt d 2) (bt d 3)=(x,true,0)):outK d=({ hdK d with hav:=if x.known then 1 else 0,bytes:=x.bytes,sl:=x.sl},true,0):=by
 unfold outK;rw[h,if_pos rfl]
theorem outK_cases (d:ByteArray):(∃ e,outK d=(Up.zero,false,e))∨∃ x,Got d 10 (bt d 0) (bt d 2) (bt d 3) x∧outK d=({ hdK d with hav:=if x.known then 1 else 0,bytes:=x.bytes,sl:=x.sl},true,0):=by
 rcases end_cases d 10 (bt d 0) (bt d 2) (bt d 3)with⟨e,h⟩|⟨x,g⟩
 · exact .inl ⟨e,e0v h⟩
 · exact .inr ⟨x,g,m0q g.eq⟩
end J1
end Go.Proofs.YtllhobicfclheaaGreatDoor

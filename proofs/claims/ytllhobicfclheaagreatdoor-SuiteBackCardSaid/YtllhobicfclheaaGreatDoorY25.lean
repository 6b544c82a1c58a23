/-
  A part of a proof. No conditions.
-/
import Derived.Test.YtllhobicfclheaaGreatDoorY23
import Derived.Test.YtllhobicfclheaaGreatDoorY24
namespace Go.Proofs.YtllhobicfclheaaGreatDoor
open Go.ChangeShapes Go.WideShapes Go.ChangeAt Go.RowKit
set_option linter.unusedVariables false
set_option maxRecDepth 100000
set_option maxHeartbeats 51200000
namespace K1
open Ms S1 Lk Nu J1
open Oct (fitsB)
open Own (k11 ownM isKind fieldsOf)
open Bits (keepL r0a)
open Pre (leastN fillL rightZ)
open F1 (bt d0b o0b)
structure Kx where
  p0:ByteArray
  p1:ByteArray
  p2:ByteArray
  p3:ByteArray
  n0:ByteArray
  n1:ByteArray
  id:ByteArray
def Kx.zero:Kx:=⟨ByteArray.empty,ByteArray.empty,ByteArray.empty,ByteArray.empty,ByteArray.empty,ByteArray.empty,ByteArray.empty⟩
def Kx.cells (c:Kx):Array Value:=#[.string c.p0,.string c.p1,.string c.p2,.string c.p3,.string c.n0,.string c.n1,.string c.id]
def Kx.pf (c:Kx)(ae:Int):ByteArray:=if ae=1 then c.p1 else if ae=2 then c.p2 else if ae=3 then c.p3 else c.p0
def Kx.nx (c:Kx)(f:Int):ByteArray:=if f=1 then c.n1 else c.n0
def Kx.setP (c:Kx)(ae:Int)(a:ByteArray):Kx:=if ae=1 then { c with p1:=a} else if ae=2 then { c with p2:=a} else if ae=3 then { c with p3:=a} else { c with p0:=a}
def Kx.setN (c:Kx)(f:Int)(a:ByteArray):Kx:=if f=1 then { c with n1:=a} else { c with n0:=a}
def emB (a:ByteArray):Bool:=decide (a.size=0)
def okP (ae:Int)(a:ByteArray):Bool:=emB a||adrB ae a
def okN (k:Nat)(a:ByteArray):Bool:=emB a||decide (a.size=k)
def okC (c:Kx):Bool:=emB c.p0&&(okP 1 c.p1&&(okP 2 c.p2&&(okP 3 c.p3&&(okN 4 c.n0&&(okN 16 c.n1&&okN 8 c.id)))))
structure Okc (c:Kx):Prop where
  p0:c.p0.size=0
  p1:c.p1.size=0∨adrB 1 c.p1=true
  p2:c.p2.size=0∨adrB 2 c.p2=true
  p3:c.p3.size=0∨adrB 3 c.p3=true
  n0:c.n0.size=0∨c.n0.size=4
  n1:c.n1.size=0∨c.n1.size=16
  id:c.id.size=0∨c.id.size=8
theorem o0f (c:Kx):okC c=true↔Okc c:=by
 unfold okC okP okN emB;simp only[Bool.and_eq_true,Bool.or_eq_true,decide_eq_true_eq]
 exact⟨fun⟨a,b,c,d,e,f,g⟩=>⟨a,b,c,d,e,f,g⟩,fun⟨a,b,c,d,e,f,g⟩=>⟨a,b,c,d,e,f,g⟩⟩
theorem Okc.pf {c:Kx}(h:Okc c){ae:Int}(h0:0≤ae)(h3:ae≤3):(c.pf ae).size=0∨(adrB ae (c.pf ae)=true∧¬ae=0):=by
 rcases(show ae=0∨ae=1∨ae=2∨ae=3 by omega)with rfl|rfl|rfl|rfl
 · exact .inl h.p0
 · exact h.p1.imp (fun x=>x) (fun h=>⟨h,by decide⟩)
 · exact h.p2.imp (fun x=>x) (fun h=>⟨h,by decide⟩)
 · exact h.p3.imp (fun x=>x) (fun h=>⟨h,by decide⟩)
theorem Okc.setP {c:Kx}(h:Okc c){ae:Int}{a:ByteArray}(h0:0<ae)(h3:ae≤3)(ha:adrB ae a=true):Okc (c.setP ae a):=by
 rcases(show ae=1∨ae=2∨ae=3 by omega)with rfl|rfl|rfl
 · exact⟨h.p0,.inr ha,h.p2,h.p3,h.n0,h.n1,h.id⟩
 · exact⟨h.p0,h.p1,.inr ha,h.p3,h.n0,h.n1,h.id⟩
 · exact⟨h.p0,h.p1,h.p2,.inr ha,h.n0,h.n1,h.id⟩
theorem Okc.setI {c:Kx}(h:Okc c){a:ByteArray}(ha:a.size=8):Okc { c with id:=a}:=⟨h.p0,h.p1,h.p2,h.p3,h.n0,h.n1,.inr ha⟩
theorem c0k:okC Kx.zero=true:=rfl
def fam (ae:Int):Int:=if ae=1 then 0 else if ae=2∨ae=3 then 1 else -1
def famA (a:ByteArray):Int:=if a.size=4 then 0 else if a.size=16 then 1 else -1
def sizeA (ae:Int):Nat:=if ae=1 then 4 else if ae=2 then 16 else if ae=3 then 8 else 0
theorem Okc.setN {c:Kx}(h:Okc c){ae:Int}{a:ByteArray}(h0:0<ae)(h3:ae≤3)(ha:a.size=if ae=1 then 4 else 16):Okc (c.setN (fam ae) a):=by
 rcases(show ae=1∨ae=2∨ae=3 by omega)with rfl|rfl|rfl
 · exact⟨h.p0,h.p1,h.p2,h.p3,.inr ha,h.n1,h.id⟩
 · exact⟨h.p0,h.p1,h.p2,h.p3,h.n0,.inr ha,h.id⟩
 · exact⟨h.p0,h.p1,h.p2,h.p3,h.n0,.inr ha,h.id⟩
theorem Okc.nx {c:Kx}(h:Okc c){ae:Int}(h0:0<ae)(h3:ae≤3):(c.nx (fam ae)).size=0∨famA (c.nx (fam ae))=fam ae:=by
 rcases(show ae=1∨ae=2∨ae=3 by omega)with rfl|rfl|rfl
 · exact h.n0.imp (fun x=>x) (fun h=>by show famA c.n0=0;unfold famA;rw[if_pos h])
 · exact h.n1.imp (fun x=>x) (fun h=>by show famA c.n1=1;unfold famA;rw[if_neg (by omega),if_pos h])
 · exact h.n1.imp (fun x=>x) (fun h=>by show famA c.n1=1;unfold famA;rw[if_neg (by omega),if_pos h])
theorem g0o {m:M}(h:m.kind=11):isKind m=true∧ownM m={ k11 m with kind:=m.kind}:=by
 refine' qzp
def wayB (m:M):Bool:=if m.metric=65535 then emB m.id&&emB m.next else !decide (m.ae=0)&&(decide (m.id.size=8)&&(emB m.next||decide (famA m.next=fam m.ae)))
def okU (m:M):Bool:=decide (m.kind=11)&&(bare m&&(okS m.sl&&(inB m.ae m.pfx m.plen&&(fitsB m.interval 2&&(fitsB m.seq 2&&(fitsB m.metric 2&&wayB m))))))
noncomputable def fixO (d:ByteArray)(z:Nat):Bool×Int:=if d.size<z then(false,2)else(outS (d.extract z d.size)).2
noncomputable def out6 (c:Kx)(d:ByteArray):Kx×List M×Int:=
  if(fixO d 10).2=0∧(fixO d 10).1=true then({ c with id:=d.extract 2 10},[],0)else(c,[],(fixO d 10).2)
def hopA (ae:Int)(d:ByteArray):ByteArray:=if ae=3 then lgA (d.extract 2 (2+sizeA ae))else d.extract 2 (2+sizeA ae)
noncomputable def out7 (c:Kx)(d:ByteArray):Kx×List M×Int:=
  if d.size<2 then(c,[],2)
  else if bt d 0=0∨3<bt d 0 then(c,[],0)
  else if(fixO d (2+sizeA (bt d 0))).2=0∧(fixO d (2+sizeA (bt d 0))).1=true then(c.setN (fam (bt d 0)) (hopA (bt d 0) d),[],0)
  else(c,[],(fixO d (2+sizeA (bt d 0))).2)
def omL (c:Kx)(u:Up):List UInt8:=((c.pf u.ae).data.toList.drop (baseN u.ae)).take u.om.toNat
def adrC (c:Kx)(u:Up):ByteArray:=wholeP u.ae ⟨(omL c u++u.bytes.data.toList).toArray⟩ u.plen
def idA (a:ByteArray):ByteArray:=⟨((List.replicate 8 0++a.data.toList).drop a.size).toArray⟩
theorem p0v (a:ByteArray):(idA a).size=8:=by
 unfold idA;rw[d0c,List.length_drop,List.length_append,List.length_replicate,c0a];omega
def flagC (c:Kx)(u:Up)(a:ByteArray):Kx:=
  if u.ae=0 then c
  else if u.flags / 64%2=1 then { (if 128≤u.flags then c.setP u.ae a else c)with id:=idA a}
  else if 128≤u.flags then c.setP u.ae a else c
def tellB (c:Kx)(u:Up):Bool:=!decide (u.hav=0)&&(decide (u.metric=65535)||(!decide (u.ae=0) && !emB c.id))
def updM (c:Kx)(u:Up)(a:ByteArray):M:=
  { M.zero with kind:=11,ae:=u.ae,pfx:=a,plen:=u.plen,interval:=u.iv,seq:=u.seq,metric:=u.metric,sl:=u.sl,
                id:=if u.metric=65535 then ByteArray.empty else c.id,next:=if u.metric=65535 then ByteArray.empty else c.nx (fam u.ae)}
def stU (c:Kx)(u:Up):Kx×List M×Int:=
  if 0<u.om∧(c.pf u.ae).size=0 then(c,[],9)
  else(flagC c u (adrC c u),if tellB (flagC c u (adrC c u)) u then [updM (flagC c u (adrC c u)) u (adrC c u)]else [],0)
noncomputable def out8 (c:Kx)(d:ByteArray):Kx×List M×Int:=if(outK d).2.1=true then stU c (outK d).1 else(c,[],(outK d).2.2)
noncomputable def outC (c:Kx)(t:Int)(d:ByteArray):Kx×List M×Int:=if t=6 then out6 c d else if t=7 then out7 c d else out8 c d
theorem d0i {d:ByteArray}{z:Nat}(h:d.size<z):fixO d z=(false,2):=by unfold fixO;rw[if_pos h]
theorem j0i {d:ByteArray}{z:Nat}(h:¬d.size<z):fixO d z=(outS (d.extract z d.size)).2:=by unfold fixO;rw[if_neg h]
theorem g0p {d:ByteArray}{z:Nat}(h:¬(fixO d z).2=0):(fixO d z).1=false:=by
 unfold fixO at *;split at h
 · rename_i k;rw[if_pos k]
 · rename_i k;rw[if_neg k]
   rcases outS_cases (d.extract z d.size)with⟨l,_,_,_,⟨_,e⟩|⟨_,e⟩⟩|⟨p,_,e⟩
   · rw[e]at h;exact absurd rfl h
   · rw[e]
   · rw[e]
structure Cnt (d:ByteArray)(u:Up):Prop where
  ae0:0≤u.ae
  ae3:u.ae≤3
  len:lenB u.ae u.plen=true
  om0:0≤u.om
  omle:u.om≤countN u.ae u.plen
  size:u.bytes.size=countN u.ae u.plen - u.om.toNat
  subs:okS u.sl=true
  iv:fitsB u.iv 2=true
  seq:fitsB u.seq 2=true
  metric:fitsB u.metric 2=true
  fl0:0≤u.flags
  fl1:u.flags<256
theorem t1j {d:ByteArray}(h:(outK d).2.1=true):Cnt d (outK d).1∧(outK d).2.2=0:=by
 rcases outK_cases d with⟨e,k⟩|⟨x,g,k⟩
 · rw[k]at h;cases h
 rw[k];have hl:=q0b g.len;have hs:=g.size
 have h10:10≤d.size:=by unfold restN at hs;omega
 refine⟨⟨hl.1,hl.2.1,g.len,d0b d 3,g.omle,?_,g.subs,t0d (by omega),t0d (by omega),t0d (by omega),d0b d 1,o0b d 1⟩,rfl⟩
 show x.bytes.size=countN (bt d 0) (bt d 2) - (bt d 3).toNat
 rw[g.bytes,a0h _ _ _ hs];unfold restN;omega
theorem outK_two (d:ByteArray):(∃ e,outK d=(Up.zero,false,e))∨∃ u,Cnt d u∧outK d=(u,true,0):=by
 rcases outK_cases d with⟨e,k⟩|⟨x,g,k⟩
 · exact .inl ⟨e,k⟩
 · have:=t1j (d:=d) (by rw[k])
   rw[k]at this;exact .inr ⟨_,this.1,k⟩
theorem k0v {ae:Int}{a:ByteArray}(h:adrB ae a=true)(h0:0<ae)(h3:ae≤3):a.size=if ae=1 then 4 else 16:=by
 rcases(show ae=1∨ae=2∨ae=3 by omega)with rfl|rfl|rfl
 · simpa[adrB]using h
 · simpa[adrB]using h
 · have h:link a=true:=h;exact i0d h
theorem w0s {c:Kx}{d:ByteArray}{u:Up}(hc:Okc c)(g:Cnt d u)(h:¬(0<u.om∧(c.pf u.ae).size=0)):(omL c u).length=u.om.toNat:=by
 unfold omL;rw[List.length_take,List.length_drop,c0a];by_cases h0:u.om=0
 · rw[h0];simp
 have hp:=hc.pf g.ae0 g.ae3;have h1:=g.om0
 rcases hp with hp|⟨hp,hz⟩
 · exact absurd ⟨by omega,hp⟩ h
 have hl:=k0v hp (by have:=g.ae0;omega) g.ae3
 have h2:=g.omle;have hcl:=count_le g.len
 rcases len_cases g.len with⟨e,_⟩|⟨e,_,k⟩|⟨e,_,k⟩|⟨e,_,k⟩
 · exact absurd e hz
 · rw[e]at hl hcl h2⊢
   have:countN 1 u.plen≤4:=by unfold countN leastN baseN;simp;omega
   have hb:baseN 1=0:=rfl;simp only[if_pos]at hl;omega
 · rw[e]at hl hcl h2⊢;have hb:baseN 2=0:=rfl
   rw[if_neg (by decide)]at hl
   omega
 · rw[e]at hl hcl h2⊢;have hb:baseN 3=8:=rfl
   have:countN 3 u.plen≤8:=by unfold countN leastN baseN;simp;omega
   rw[if_neg (by decide)]at hl
   omega
theorem v0q {c:Kx}{d:ByteArray}{u:Up}(hc:Okc c)(g:Cnt d u)(h:¬(0<u.om∧(c.pf u.ae).size=0)):(ByteArray.mk (omL c u++u.bytes.data.toList).toArray).size=countN u.ae u.plen:=by
 rw[d0c,List.length_append,w0s hc g h,c0a,g.size];have:=g.omle;have:=g.om0;omega
theorem m1a {c:Kx}{d:ByteArray}{u:Up}(hc:Okc c)(g:Cnt d u)(h:¬(0<u.om∧(c.pf u.ae).size=0)):inB u.ae (adrC c u) u.plen=true:=s0w g.len (v0q hc g h)
theorem v1i {ae:Int}{a:ByteArray}{p:Int}(h:inB ae a p=true):adrB ae a=true:=by unfold inB at h;rw[Bool.and_eq_true]at h;exact h.1
theorem c1l {c:Kx}{d:ByteArray}{u:Up}{a:ByteArray}(hc:Okc c)(g:Cnt d u)(ha:adrB u.ae a=true):Okc (flagC c u a):=by
 unfold flagC;by_cases h0:u.ae=0
 · rw[if_pos h0];exact hc
 rw[if_neg h0]
 have h1:0<u.ae:=by have:=g.ae0;omega
 have hp:=hc.setP h1 g.ae3 ha;by_cases k:u.flags / 64%2=1
 · rw[if_pos k];split
   · exact hp.setI (p0v a)
   · exact hc.setI (p0v a)
 · rw[if_neg k];split
   · exact hp
   · exact hc
theorem b0n {a:ByteArray}:emB a=true↔a.size=0:=by unfold emB;exact decide_eq_true_iff
theorem l1q {c:Kx}{d:ByteArray}{u:Up}{a:ByteArray}(hc:Okc c)(g:Cnt d u)(hi:inB u.ae a u.plen=true)(ht:tellB c u=true):okU (updM c u a)=true:=by
 have hb:bare (updM c u a)=true:=by
  unfold bare;rw[(g0o (m:=updM c u a) rfl).1,(g0o (m:=updM c u a) rfl).2];unfold M.same M.flatE k11 updM M.zero;simp
 have hw:wayB (updM c u a)=true:=by
  unfold wayB;unfold tellB at ht;by_cases hm:u.metric=65535
  · rw[if_pos (show(updM c u a).metric=65535 from hm)]
    have e1:(updM c u a).id=ByteArray.empty:=by unfold updM;simp[hm]
    have e2:(updM c u a).next=ByteArray.empty:=by unfold updM;simp[hm]
    rw[e1,e2];rfl
  · rw[if_neg (show ¬(updM c u a).metric=65535 from hm)]
    rw[decide_eq_false hm]at ht;simp only[Bool.and_eq_true,Bool.or_eq_true,Bool.not_eq_true',Bool.false_eq_true,false_or,decide_eq_false_iff_not]at ht;obtain⟨_,h0,hz⟩:=ht
    have e1:(updM c u a).id=c.id:=by unfold updM;simp[hm]
    have e2:(updM c u a).next=c.nx (fam u.ae):=by unfold updM;simp[hm]
    have e3:(updM c u a).ae=u.ae:=rfl
    have h8:c.id.size=8:=hc.id.resolve_left (fun h=>by rw[b0n.2 h]at hz;cases hz)
    rw[e1,e2,e3,decide_eq_false h0,decide_eq_true h8]
    have:=hc.nx (ae:=u.ae) (by have:=g.ae0;omega) g.ae3
    rcases this with h|h
    · rw[b0n.2 h];rfl
    · rw[decide_eq_true h];simp
 unfold okU;rw[hb,hw]
 show(decide ((11:Int)=11)&&(true&&(okS u.sl&&(inB u.ae a u.plen&&(fitsB u.iv 2&&(fitsB u.seq 2&&(fitsB u.metric 2&&true)))))))=true
 rw[g.subs,hi,g.iv,g.seq,g.metric];rfl
theorem s0u {c:Kx}{u:Up}(h:0<u.om∧(c.pf u.ae).size=0):stU c u=(c,[],9):=by unfold stU;rw[if_pos h]
theorem s0m {c:Kx}{u:Up}(h:¬(0<u.om∧(c.pf u.ae).size=0)):stU c u=(flagC c u (adrC c u),if tellB (flagC c u (adrC c u)) u then [updM (flagC c u (adrC c u)) u (adrC c u)]else [],0):=by unfold stU;rw[if_neg h]
theorem d0v {c:Kx}{d:ByteArray}{e:Int}(h:outK d=(Up.zero,false,e)):out8 c d=(c,[],e):=by unfold out8;rw[h,if_neg (by simp)]
theorem q0m {c:Kx}{d:ByteArray}{u:Up}(h:outK d=(u,true,0)):out8 c d=stU c u:=by unfold out8;rw[h,if_pos rfl]
structure Good (c:Kx)(p:Kx×List M×Int):Prop where
  ok:okC p.1=true
  told:p.2.1 = []∨∃ m,p.2.1 = [m]∧okU m=true∧m.la=none∧m.ll = []∧m.lc=0
  err:¬p.2.2=0→p=(c,[],p.2.2)
theorem u0g {c:Kx}(hc:okC c=true)(e:Int):Good c (c,[],e):=⟨hc,.inl rfl,fun _=>rfl⟩
theorem w0w {c c':Kx}(hc:okC c'=true):Good c (c',[],0):=⟨hc,.inl rfl,fun h=>absurd rfl h⟩
theorem f0h {ae:Int}{d:ByteArray}(h0:0<ae)(h3:ae≤3)(hd:¬d.size<2+sizeA ae):(hopA ae d).size=if ae=1 then 4 else 16:=by
 rcases(show ae=1∨ae=2∨ae=3 by omega)with rfl|rfl|rfl
 · have:sizeA 1=4:=rfl
   show(d.extract 2 6).size=4
   rw[a0h _ _ _ (by omega)]
 · have:sizeA 2=16:=rfl
   show(d.extract 2 18).size=16
   rw[a0h _ _ _ (by omega)]
 · have:sizeA 3=8:=rfl
   show(lgA (d.extract 2 10)).size=16
   exact i0d (v1b (by rw[a0h _ _ _ (by omega)])).1
theorem d0f {c:Kx}(t:Int)(d:ByteArray)(hc:okC c=true):Good c (outC c t d):=by
 have ho:=(o0f c).1 hc;unfold outC;by_cases h6:t=6
 · rw[if_pos h6];unfold out6;by_cases k:(fixO d 10).2=0∧(fixO d 10).1=true
   · rw[if_pos k]
     have hz:¬d.size<10:=fun h=>by rw[d0i h]at k;cases k.2
     exact w0w ((o0f _).2 (ho.setI (by rw[a0h _ _ _ (by omega)])))
   · rw[if_neg k];exact u0g hc _
 rw[if_neg h6];by_cases h7:t=7
 · rw[if_pos h7];unfold out7;by_cases k1:d.size<2
   · rw[if_pos k1];exact u0g hc _
   rw[if_neg k1];by_cases k2:bt d 0=0∨3<bt d 0
   · rw[if_pos k2];exact u0g hc _
   rw[if_neg k2];by_cases k:(fixO d (2+sizeA (bt d 0))).2=0∧(fixO d (2+sizeA (bt d 0))).1=true
   · rw[if_pos k]
     have hz:¬d.size<2+sizeA (bt d 0):=fun h=>by rw[d0i h]at k;cases k.2
     have:=d0b d 0
     exact w0w ((o0f _).2 (ho.setN (by omega) (by omega) (f0h (by omega) (by omega) hz)))
   · rw[if_neg k];exact u0g hc _
 rw[if_neg h7]
 rcases outK_two d with⟨e,h⟩|⟨u,g,h⟩
 · rw[d0v h];exact u0g hc _
 rw[q0m h];by_cases hx:0<u.om∧(c.pf u.ae).size=0
 · rw[s0u hx];exact u0g hc _
 rw[s0m hx];have hi:=m1a ho g hx;have hf:=c1l ho g (v1i hi)
 refine⟨(o0f _).2 hf,?_,fun h=>absurd rfl h⟩
 by_cases ht:tellB (flagC c u (adrC c u)) u=true
 · exact .inr ⟨_,by show(if _ then _ else _)=_;rw[if_pos ht],l1q hf g hi ht,rfl,rfl,rfl⟩
 · exact .inl (by show(if _ then _ else _)=_;rw[if_neg ht])
theorem x0e {c:Kx}(t:Int)(d:ByteArray)(hc:okC c=true):∀ m∈(outC c t d).2.1,m.la=none∧m.ll = []∧m.lc=0∧m.sl.length≤100∧∀ x∈m.sl,x.1.size≤1099511627776:=by
 intro m hm
 rcases(d0f t d hc).told with h|⟨n,h,ho,h1,h2,h3⟩
 · rw[h]at hm;exact absurd hm (by simp)
 · rw[h]at hm;rw[List.mem_singleton.1 hm]
   have hs:okS n.sl=true:=by
    unfold okU at ho;simp only[Bool.and_eq_true]at ho;exact ho.2.2.1
   exact⟨h1,h2,h3,u0u hs,h0u hs⟩
theorem at_0 {d:ByteArray}{x:UInt8}{l:List UInt8}(h:d.data.toList=x::l):bt d 0=x.toNat:=by unfold bt;rw[h];rfl
theorem at_1 {d:ByteArray}{x y:UInt8}{l:List UInt8}(h:d.data.toList=x::y::l):bt d 1=y.toNat:=by unfold bt;rw[h];rfl
theorem at_2 {d:ByteArray}{x y z:UInt8}{l:List UInt8}(h:d.data.toList=x::y::z::l):bt d 2=z.toNat:=by unfold bt;rw[h];rfl
theorem at_3 {d:ByteArray}{x y z u:UInt8}{l:List UInt8}(h:d.data.toList=x::y::z::u::l):bt d 3=u.toNat:=by unfold bt;rw[h];rfl
end K1
namespace I1
open Ms
open S1 (okS outS)
open G1 (outF)
open J1 (outJ)
open K1 F1
open Nu (k0a n0a)
def opM (t:Int)(d:ByteArray):M:={ M.zero with kind:=14,typ:=t,data:=d}
def tell (c:Kx)(p:M×Bool×Int):Kx×List M×Int:=(c,if p.2.2=0∧p.2.1=true then [p.1]else [],p.2.2)
noncomputable def one (c:Kx)(t:Int)(d:ByteArray):Kx×List M×Int:=
  if t=0∨t=1 then(c,[],0)else if 2≤t∧t≤5 then tell c (outF t d)else if 6≤t∧t≤8 then outC c t d else if t=9∨t=10 then tell c (outJ t d)else(c,[opM t d],0)
theorem v0t {t:Int}(h:t=0∨t=1)(c:Kx)(d:ByteArray):one c t d=(c,[],0):=by unfold one;rw[if_pos h]
theorem s1c {t:Int}(h2:2≤t)(h5:t≤5)(c:Kx)(d:ByteArray):one c t d=tell c (outF t d):=by unfold one;rw[if_neg (by omega),if_pos ⟨h2,h5⟩]
theorem h0t {t:Int}(h6:6≤t)(h8:t≤8)(c:Kx)(d:ByteArray):one c t d=outC c t d:=by unfold one;rw[if_neg (by omega),if_neg (by omega),if_pos ⟨h6,h8⟩]
theorem i1b {t:Int}(h:t=9∨t=10)(c:Kx)(d:ByteArray):one c t d=tell c (outJ t d):=by unfold one;rw[if_neg (by omega),if_neg (by omega),if_neg (by omega),if_pos h]
theorem d1c {t:Int}(h:t<0∨10<t)(c:Kx)(d:ByteArray):one c t d=(c,[opM t d],0):=by unfold one;rw[if_neg (by omega),if_neg (by omega),if_neg (by omega),if_neg (by omega)]
def Sml (m:M):Prop:=m.la=none∧m.ll = []∧m.lc=0∧m.sl.length≤100∧∀ x∈m.sl,x.1.size≤1099511627776
theorem j1p (t:Int)(d:ByteArray):Sml (opM t d):=⟨rfl,rfl,rfl,by simp[opM,M.zero],fun x hx=>by simp[opM,M.zero]at hx⟩
structure Fine (c:Kx)(p:Kx×List M×Int):Prop where
  ok:okC p.1=true
  told:p.2.1 = []∨∃ m,p.2.1 = [m]∧Sml m
  err:¬p.2.2=0→p=(c,[],p.2.2)
theorem n0s {c:Kx}(hc:okC c=true){p:M×Bool×Int}(hs:Sml p.1):Fine c (tell c p):=by
 unfold tell;by_cases h:p.2.2=0∧p.2.1=true
 · rw[if_pos h];exact⟨hc,.inr ⟨_,rfl,hs⟩,fun k=>absurd h.1 k⟩
 · rw[if_neg h];exact⟨hc,.inl rfl,fun _=>rfl⟩
theorem e0k {c:Kx}(hc:okC c=true)(t:Int)(d:ByteArray):Fine c (one c t d):=by
 by_cases h0:t=0∨t=1
 · rw[v0t h0];exact⟨hc,.inl rfl,fun _=>rfl⟩
 by_cases h1:2≤t∧t≤5
 · rw[s1c h1.1 h1.2];exact n0s hc (G1.k0g t d h1.1 h1.2)
 by_cases h2:6≤t∧t≤8
 · rw[h0t h2.1 h2.2];have g:=d0f t d hc;refine⟨g.ok,?_,g.err⟩
   rcases g.told with h|⟨m,h,_⟩
   · exact .inl h
   · exact .inr ⟨m,h,x0e t d hc m (by rw[h];simp)⟩
 by_cases h3:t=9∨t=10
 · rw[i1b h3];exact n0s hc (J1.k0g t d h3)
 rw[d1c (by omega)];exact⟨hc,.inr ⟨_,rfl,j1p t d⟩,fun k=>absurd rfl k⟩
noncomputable def foldI:List T→Kx→List M→List M×Kx×Int×Int
  | [],c,o=>(o,c,0,0)
  | x::l,c,o=>if(one c x.2.2 x.2.1).2.2=0 then foldI l (one c x.2.2 x.2.1).1 (o++(one c x.2.2 x.2.1).2.1)else([],Kx.zero,x.1,(one c x.2.2 x.2.1).2.2)
noncomputable def outI (l:List T):List M×Kx×Int×Int:=foldI l Kx.zero []
theorem u1f (c:Kx)(o:List M):foldI [] c o=(o,c,0,0):=rfl
theorem d0e {x:T}{l:List T}{c c':Kx}{o r:List M}(h:one c x.2.2 x.2.1=(c',r,0)):foldI (x::l) c o=foldI l c' (o++r):=by
 show(if _ then _ else _)=_
 rw[h,if_pos rfl]
theorem w0f {x:T}{l:List T}{c:Kx}{o:List M}(h:¬(one c x.2.2 x.2.1).2.2=0):foldI (x::l) c o=([],Kx.zero,x.1,(one c x.2.2 x.2.1).2.2):=by
 show(if _ then _ else _)=_
 rw[if_neg h]
theorem fold_cases:∀ (l:List T) {c:Kx} (o:List M),okC c=true→(∃ r c',foldI l c o=(o++r,c',0,0)∧okC c'=true∧r.length≤l.length∧(∀ m∈r,Sml m)∧∀ o',foldI l c o'=(o'++r,c',0,0))∨∃ a e,¬e=0∧∀ o',foldI l c o'=([],Kx.zero,a,e)
  | [],c,o,hc => .inl ⟨[],c,by rw[List.append_nil];rfl,hc,Nat.le_refl _,fun m hm=>absurd hm (by simp),fun o'=>by rw[List.append_nil];rfl⟩
  | x::l,c,o,hc=>by
      have g:=e0k hc x.2.2 x.2.1
      by_cases h:(one c x.2.2 x.2.1).2.2=0
      · rcases hp:one c x.2.2 x.2.1 with⟨c',r,e⟩
        rw[hp]at g h
        obtain rfl:e=0:=h
        have hr:r.length≤1∧∀ m∈r,Sml m:=by
          rcases g.told with h|⟨m,h,hm⟩
          · have:r = []:=h
            subst this;exact⟨by simp,fun m hm=>absurd hm (by simp)⟩
          · have:r = [m]:=h
            subst this;exact⟨by simp,fun n hn=>by rw[List.mem_singleton]at hn;exact hn▸hm⟩
        rcases fold_cases l (o++r) g.ok with⟨q,c2,h1,h2,h3,h4,h5⟩|⟨a,e,h1,h2⟩
        · refine .inl ⟨r++q,c2,by rw[d0e hp,h1,List.append_assoc],h2,by rw[List.length_append,List.length_cons];omega,fun m hm=>?_,fun o'=>by rw[d0e hp,h5,List.append_assoc]⟩
          rcases List.mem_append.1 hm with k|k
          · exact hr.2 m k
          · exact h4 m k
        · exact .inr ⟨a,e,h1,fun o'=>by rw[d0e hp,h2]⟩
      · exact .inr ⟨x.1,_,h,fun o'=>w0f h⟩
theorem out_cases (l:List T):(∃ r c,outI l=(r,c,0,0)∧okC c=true∧r.length≤l.length∧(∀ m∈r,Sml m))∨∃ a e,¬e=0∧outI l=([],Kx.zero,a,e):=by
 rcases fold_cases l [] c0k with⟨r,c,h1,h2,h3,h4,_⟩|⟨a,e,h,h1⟩
 · exact .inl ⟨r,c,by rw[List.nil_append]at h1;exact h1,h2,h3,h4⟩
 · exact .inr ⟨a,e,h,h1 []⟩
theorem x1n (l:List T):∀ m∈(outI l).1,Sml m:=by
 rcases out_cases l with⟨r,c,h,_,_,h4⟩|⟨a,e,_,h⟩
 · rw[h];exact h4
 · rw[h];exact fun m hm=>absurd hm (by simp)
theorem p0m:∀ (a b:List T) (c:Kx) (o:List M),foldI (a++b) c o=if(foldI a c o).2.2.2=0 then foldI b (foldI a c o).2.1 (foldI a c o).1 else foldI a c o
  | [],b,c,o=>by rw[List.nil_append,u1f,if_pos rfl]
  | x::a,b,c,o=>by
      rw[List.cons_append]
      by_cases h:(one c x.2.2 x.2.1).2.2=0
      · rcases hp:one c x.2.2 x.2.1 with⟨c',r,e⟩
        rw[hp]at h
        obtain rfl:e=0:=h
        rw[d0e hp,d0e hp];exact p0m a b _ _
      · rw[w0f h,w0f h,if_neg h]
noncomputable def outP (b:ByteArray):List M×Int×Int:=
  if ¬(outB b).2.2=0 then([],(outB b).2.1,(outB b).2.2)
  else if ¬(outT 4 (outB b).1).2.2=0 then([],(outT 4 (outB b).1).2.1,(outT 4 (outB b).1).2.2)
  else if ¬(outT (4+((outB b).1.size:Int)) (trail b)).2.2=0 then([],(outT (4+((outB b).1.size:Int)) (trail b)).2.1,(outT (4+((outB b).1.size:Int)) (trail b)).2.2)
  else((outI (outT 4 (outB b).1).1).1,(outI (outT 4 (outB b).1).1).2.2.1,(outI (outT 4 (outB b).1).1).2.2.2)
theorem r0r {b:ByteArray}(h:¬(outB b).2.2=0):outP b=([],(outB b).2.1,(outB b).2.2):=by unfold outP;rw[if_pos h]
theorem j0q {b s:ByteArray}(h:outB b=(s,0,0))(h2:¬(outT 4 s).2.2=0):outP b=([],(outT 4 s).2.1,(outT 4 s).2.2):=by unfold outP;rw[h,if_neg (by simp),if_pos h2]
theorem h0r {b s:ByteArray}(h:outB b=(s,0,0))(h2:(outT 4 s).2.2=0)(h3:¬(outT (4+(s.size:Int)) (trail b)).2.2=0):outP b=([],(outT (4+(s.size:Int)) (trail b)).2.1,(outT (4+(s.size:Int)) (trail b)).2.2):=by
 unfold outP;rw[h,if_neg (by simp),if_neg (by simpa using h2),if_pos h3]
theorem n0n {b s:ByteArray}(h:outB b=(s,0,0))(h2:(outT 4 s).2.2=0)(h3:(outT (4+(s.size:Int)) (trail b)).2.2=0):outP b=((outI (outT 4 s).1).1,(outI (outT 4 s).1).2.2.1,(outI (outT 4 s).1).2.2.2):=by
 unfold outP;rw[h,if_neg (by simp),if_neg (by simpa using h2),if_neg (by simpa using h3)]
theorem l1i (b:ByteArray):∀ m∈(outP b).1,Sml m:=by
 unfold outP;split
 · exact fun m hm=>absurd hm (by simp)
 split
 · exact fun m hm=>absurd hm (by simp)
 split
 · exact fun m hm=>absurd hm (by simp)
 · exact x1n _
end I1
namespace L1
open Ms
open S1 (okS outS putS q0f m0g i0n)
open Lk
open G1 (outF okF typF datF)
open J1 K1 I1
open Oct (fitsB)
open Own (k11 k14 ownM isKind fieldsOf)
open F1 (T okT l0d e0n encT enc1 ok1 outT placed bt d0b o0b m0b c0c h0e l0b c0d)
open Nu
def canM (m:M):M:={ ownM m with sa:=none,sc:=0}
theorem k0n {m:M}(h:m.kind=14):isKind m=true∧ownM m={ k14 m with kind:=m.kind}:=by
 refine' qzp
theorem a1h {m:M}(h:m.kind=11):canM m={ M.zero with kind:=11,ae:=m.ae,pfx:=m.pfx,plen:=m.plen,interval:=m.interval,seq:=m.seq,metric:=m.metric,id:=m.id,next:=m.next,sl:=m.sl}:=by
 unfold canM;rw[(g0o h).2,h];rfl
theorem z1f {m:M}(h:m.kind=14):canM m=opM m.typ m.data:=by
 unfold canM;rw[(k0n h).2,h];rfl
structure Oku (m:M):Prop where
  kind:m.kind=11
  bare:bare m=true
  subs:okS m.sl=true
  pfx:inB m.ae m.pfx m.plen=true
  iv:fitsB m.interval 2=true
  seq:fitsB m.seq 2=true
  metric:fitsB m.metric 2=true
  way:wayB m=true
theorem m0c (m:M):okU m=true↔Oku m:=by
 unfold okU;refine' qzd3
 exact⟨fun h=>⟨h.1,h.2.1,h.2.2.1,h.2.2.2.1,h.2.2.2.2.1,h.2.2.2.2.2.1,h.2.2.2.2.2.2.1,h.2.2.2.2.2.2.2⟩,fun h=>⟨h.1,h.2,h.3,h.4,h.5,h.6,h.7,h.8⟩⟩
theorem y0f {a:ByteArray}(h:a.size=0):a=ByteArray.empty:=ByteArray.ext (Array.eq_empty_of_size_eq_zero h)
theorem d1m {m:M}(h:wayB m=true)(hm:m.metric=65535):m.id=ByteArray.empty∧m.next=ByteArray.empty:=by
 unfold wayB at h;rw[if_pos hm,Bool.and_eq_true,b0n,b0n]at h;exact⟨y0f h.1,y0f h.2⟩
theorem u0f {m:M}(h:wayB m=true)(hm:¬m.metric=65535):¬m.ae=0∧m.id.size=8∧(m.next.size=0∨famA m.next=fam m.ae):=by
 unfold wayB at h;rw[if_neg hm]at h;simp only[Bool.and_eq_true,Bool.or_eq_true,Bool.not_eq_true',decide_eq_false_iff_not,decide_eq_true_eq,b0n]at h;exact h
def flB (m:M):Int:=if m.ae=0 then 0 else 128
def updL (m:M)(n:Nat):List UInt8:=
  layN m.ae 1++(layN (flB m) 1++(layN m.plen 1++(layN (n:Int) 1++(layN m.interval 2++(layN m.seq 2++(layN m.metric 2++((cutP m.ae m.pfx m.plen).data.toList.drop n++(putS m.sl).data.toList)))))))
def updD (m:M)(n:Nat):ByteArray:=⟨(updL m n).toArray⟩
theorem s0n {v:Int}(h:fitsB v 2=true):∃ s0 s1,layN v 2 = [s0,s1]:=by
 have:=s0a h
 match layN v 2,this with
 | [a,b],_=>exact⟨a,b,rfl⟩
theorem q0i {m:M}{n:Nat}(h:okU m=true)(hn:n≤countN m.ae m.plen):(updD m n).size=10+(countN m.ae m.plen - n)+(putS m.sl).size∧(updD m n).size≤226:=by
 have o:=(m0c m).1 h;obtain⟨a0,a1,p0,p1⟩:=q0b (r0b o.pfx).1;have hc:=count_le (r0b o.pfx).1;have hz:=t0e o.pfx;have hs:=m0g m.sl
 have l1:=fun(v:Int) (h0:0≤v) (h1:v<256)=>e0f h0 h1
 obtain⟨ca,ha,_⟩:=l1 m.ae a0 (by omega)
 obtain⟨cf,hf,_⟩:=l1 (flB m) (by unfold flB;split<;>omega) (by unfold flB;split<;>omega)
 obtain⟨cp,hp,_⟩:=l1 m.plen p0 (by omega)
 obtain⟨cn,hn1,_⟩:=l1 (n:Int) (by omega) (by omega)
 have e:(updD m n).size=10+(countN m.ae m.plen - n)+(putS m.sl).size:=by
  show(updL m n).toArray.size=_
  unfold updL;rw[ha,hf,hp,hn1,List.size_toArray];simp only[List.length_append,s0a o.iv,s0a o.seq,s0a o.metric,List.length_drop,List.length_cons,List.length_nil,J1.c0a,hz];omega
 exact⟨e,by rw[e];omega⟩
def updU (m:M)(n:Nat):Up:={ Up.zero with ae:=m.ae,flags:=flB m,plen:=m.plen,om:=(n:Int),iv:=m.interval,seq:=m.seq,metric:=m.metric,hav:=1,bytes:=⟨((cutP m.ae m.pfx m.plen).data.toList.drop n).toArray⟩,sl:=m.sl}
theorem c1m {m:M}{n:Nat}(h:okU m=true)(hn:n≤countN m.ae m.plen):outK (updD m n)=(updU m n,true,0):=by
 have o:=(m0c m).1 h;have hlen:=(r0b o.pfx).1;obtain⟨a0,a1,p0,p1⟩:=q0b hlen;have hc:=count_le hlen;have hz:=t0e o.pfx;have hsz:=(q0i h hn).1;have hl:(updD m n).data.toList=updL m n:=rfl
 obtain⟨ca,ha,hca⟩:=e0f (v:=m.ae) a0 (by omega)
 obtain⟨cf,hf,hcf⟩:=e0f (v:=flB m) (by unfold flB;split<;>omega) (by unfold flB;split<;>omega)
 obtain⟨cp,hp,hcp⟩:=e0f (v:=m.plen) p0 (by omega)
 obtain⟨cn,hn1,hcn⟩:=e0f (v:=(n:Int)) (by omega) (by omega)
 obtain⟨i0,i1,hi⟩:=s0n o.iv;obtain⟨s0,s1,hs⟩:=s0n o.seq;obtain⟨m0,m1,hm⟩:=s0n o.metric
 have e:(updD m n).data.toList=ca::cf::cp::cn::i0::i1::s0::s1::m0::m1::((cutP m.ae m.pfx m.plen).data.toList.drop n++(putS m.sl).data.toList):=by
  rw[hl];unfold updL;rw[ha,hf,hp,hn1,hi,hs,hm];rfl
 generalize updD m n=d at *
 have b0:bt d 0=m.ae:=by rw[at_0 e];exact hca
 have b1:bt d 1=flB m:=by rw[at_1 e];exact hcf
 have b2:bt d 2=m.plen:=by rw[at_2 e];exact hcp
 have b3:bt d 3=n:=by rw[at_3 e];exact hcn
 have n4:num2 d 4=m.interval:=m0e (by rw[e,hi];rfl) o.iv
 have n6:num2 d 6=m.seq:=m0e (by rw[e,hs];rfl) o.seq
 have n8:num2 d 8=m.metric:=m0e (by rw[e,hm];rfl) o.metric
 have hr:restN 10 m.ae m.plen (n:Int)=10+(countN m.ae m.plen - n):=by unfold restN;rw[Int.toNat_natCast]
 have hdl:((cutP m.ae m.pfx m.plen).data.toList.drop n).length=countN m.ae m.plen - n:=by rw[List.length_drop,J1.c0a,hz]
 have e1:d.extract (restN 10 m.ae m.plen (n:Int)) d.size=putS m.sl:=k0a (by
  rw[J1.f0g,hr,e,←List.drop_drop]
  show List.drop (countN m.ae m.plen - n) ((cutP m.ae m.pfx m.plen).data.toList.drop n++(putS m.sl).data.toList)=_
  rw[←hdl]
  exact List.drop_left ..)
 have e2:d.extract 10 (restN 10 m.ae m.plen (n:Int))=⟨((cutP m.ae m.pfx m.plen).data.toList.drop n).toArray⟩:=k0a (by
  rw[n0a,hr,e,Nat.add_sub_cancel_left]
  show List.take (countN m.ae m.plen - n) ((cutP m.ae m.pfx m.plen).data.toList.drop n++(putS m.sl).data.toList)=_
  rw[←hdl]
  simp)
 have hend:=f0p (s:=d) (z:=10) (ae:=m.ae) (p:=m.plen) (om:=(n:Int)) (l:=m.sl) (b:=true) (by omega) (by omega) hlen (by omega) (by rw[hr];omega) (by rw[e1];exact q0f o.subs)
 rw[e2]at hend
 rw[m0q (x:=⟨⟨((cutP m.ae m.pfx m.plen).data.toList.drop n).toArray⟩,m.sl,true⟩) (by rw[b0,b2,b3];exact hend)]
 unfold hdK updU;rw[b0,b1,b2,b3,n4,n6,n8];rfl
def knowP (c:Kx)(m:M):Kx:=if m.ae=0 then c else c.setP m.ae m.pfx
theorem w1m {c:Kx}{m:M}{n:Nat}(h:okU m=true)(hn:n≤countN m.ae m.plen)(hd:((c.pf m.ae).data.toList.drop (baseN m.ae)).take n=(cutP m.ae m.pfx m.plen).data.toList.take n)(h0:0<n→¬(c.pf m.ae).size=0)
    (hw:¬m.metric=65535→c.id=m.id∧c.nx (fam m.ae)=m.next):one c 8 (updD m n)=(knowP c m,[canM m],0):=by
 have o:=(m0c m).1 h
 rw[h0t (by omega) (by omega),show outC c 8 (updD m n)=out8 c (updD m n)from rfl,q0m (c1m h hn),s0m (fun x=>h0 (by have:=x.1;simp only[updU]at this;omega) x.2)]
 have ha:adrC c (updU m n)=m.pfx:=by
  unfold adrC omL
  show wholeP m.ae ⟨((((c.pf m.ae).data.toList.drop (baseN m.ae)).take (n:Int).toNat)++((cutP m.ae m.pfx m.plen).data.toList.drop n)).toArray⟩ m.plen=m.pfx
  rw[Int.toNat_natCast,hd,List.take_append_drop];exact z0s o.pfx
 have hf:flagC c (updU m n) m.pfx=knowP c m:=by
  unfold flagC knowP
  show(if m.ae=0 then c else if flB m / 64%2=1 then _ else if 128≤flB m then c.setP m.ae m.pfx else c)=_
  by_cases h0:m.ae=0
  · rw[if_pos h0,if_pos h0]
  · rw[if_neg h0,if_neg h0,show flB m=128 from if_neg h0,if_neg (by decide),if_pos (by decide)]
 have hid:(knowP c m).id=c.id∧(knowP c m).nx (fam m.ae)=c.nx (fam m.ae):=by
  unfold knowP;split
  · exact⟨rfl,rfl⟩
  · unfold Kx.setP Kx.nx
    constructor<;>(repeat' split)<;>rfl
 have ht:tellB (knowP c m) (updU m n)=true:=by
  unfold tellB
  show(!decide ((1:Int)=0)&&(decide (m.metric=65535)||(!decide (m.ae=0) && !emB (knowP c m).id)))=true
  by_cases hm:m.metric=65535
  · rw[decide_eq_true hm];rfl
  · obtain⟨w1,w2,_⟩:=u0f o.way hm
    rw[decide_eq_false w1,show emB (knowP c m).id=false by rw[hid.1,(hw hm).1];unfold emB;rw[decide_eq_false (by omega)]]
    simp
 rw[ha,hf,if_pos ht,a1h o.kind]
 have hu:updM (knowP c m) (updU m n) m.pfx={ M.zero with kind:=11,ae:=m.ae,pfx:=m.pfx,plen:=m.plen,interval:=m.interval,seq:=m.seq,metric:=m.metric,id:=m.id,next:=m.next,sl:=m.sl}:=by
  unfold updM
  show({ M.zero with kind:=11,ae:=m.ae,pfx:=m.pfx,plen:=m.plen,interval:=m.interval,seq:=m.seq,metric:=m.metric,sl:=m.sl,id:=if m.metric=65535 then ByteArray.empty else(knowP c m).id,next:=if m.metric=65535 then ByteArray.empty else(knowP c m).nx (fam m.ae)}:M)=_
  by_cases hm:m.metric=65535
  · obtain⟨w1,w2⟩:=d1m o.way hm;rw[if_pos hm,if_pos hm,w1,w2]
  · rw[if_neg hm,if_neg hm,hid.1,hid.2,(hw hm).1,(hw hm).2]
 rw[hu]
def idD (a:ByteArray):ByteArray:=⟨(0::0::a.data.toList).toArray⟩
theorem y1a:outS ⟨#[]⟩=([],true,0):=by rw[i0n (l:=[]) l0d rfl (by decide)];rfl
theorem f1r {c:Kx}{a:ByteArray}(h:a.size=8):one c 6 (idD a)=({ c with id:=a},[],0):=by
 have hz:(idD a).size=10:=by show(0::0::a.data.toList).toArray.size=10;simp;omega
 rw[h0t (by omega) (by omega)]
 show out6 c (idD a)=_
 have hf:fixO (idD a) 10=(true,0):=by
  rw[j0i (by omega)]
  have:(idD a).extract 10 (idD a).size=⟨#[]⟩:=k0a (by rw[J1.f0g,List.drop_of_length_le (by rw[J1.c0a];omega)])
  rw[this,y1a]
 have he:(idD a).extract 2 10=a:=k0a (by
  rw[n0a]
  show List.take 8 a.data.toList=_
  exact List.take_of_length_le (by rw[J1.c0a];omega))
 unfold out6;rw[hf,if_pos ⟨rfl,rfl⟩,he]
def hopE (a:ByteArray):Int:=if a.size=4 then 1 else if link a=true then 3 else 2
def hopS (a:ByteArray):ByteArray:=if a.size=4 then a else if link a=true then shA a else a
def hopD (a:ByteArray):ByteArray:=⟨(layN (hopE a) 1++(0::(hopS a).data.toList)).toArray⟩
theorem w0n {a:ByteArray}(h:a.size=4∨a.size=16):1≤hopE a∧hopE a≤3∧(hopS a).size=sizeA (hopE a)∧fam (hopE a)=famA a∧(if hopE a=3 then lgA (hopS a)else hopS a)=a:=by
 unfold hopE hopS;by_cases h4:a.size=4
 · rw[if_pos h4,if_pos h4]
   exact⟨by omega,by omega,by rw[h4];rfl,by unfold famA;rw[if_pos h4];rfl,by rw[if_neg (by decide)]⟩
 have h16:a.size=16:=by omega
 by_cases hl:link a=true
 · rw[if_neg h4,if_neg h4,if_pos hl,if_pos hl]
   exact⟨by omega,by omega,by rw[q0u hl];rfl,by unfold famA;rw[if_neg h4,if_pos h16];rfl,by rw[if_pos rfl];exact f1p hl⟩
 · rw[if_neg h4,if_neg h4,if_neg hl,if_neg hl]
   exact⟨by omega,by omega,by rw[h16];rfl,by unfold famA;rw[if_neg h4,if_pos h16];rfl,by rw[if_neg (by decide)]⟩
theorem f0h {a:ByteArray}(h:a.size=4∨a.size=16):(hopD a).size=2+sizeA (hopE a)∧(hopD a).size≤18:=by
 obtain⟨h1,h3,hs,_,_⟩:=w0n h
 obtain⟨ca,ha,_⟩:=e0f (v:=hopE a) (by omega) (by omega)
 have e:(hopD a).size=2+sizeA (hopE a):=by
  show(layN (hopE a) 1++(0::(hopS a).data.toList)).toArray.size=_
  rw[ha];simp;omega
 refine⟨e,?_⟩
 rw[e];unfold sizeA;split<;>(try split)<;>(try split)<;>omega
theorem i1l {c:Kx}{a:ByteArray}(h:a.size=4∨a.size=16):one c 7 (hopD a)=(c.setN (famA a) a,[],0):=by
 obtain⟨h1,h3,hs,hf,ha⟩:=w0n h;have hz:=(f0h h).1
 obtain⟨ca,hla,hca⟩:=e0f (v:=hopE a) (by omega) (by omega)
 have e:(hopD a).data.toList=ca::0::(hopS a).data.toList:=by
  show layN (hopE a) 1++(0::(hopS a).data.toList)=_
  rw[hla];rfl
 rw[h0t (by omega) (by omega)]
 show out7 c (hopD a)=_
 have b0:bt (hopD a) 0=hopE a:=by rw[at_0 e];exact hca
 have hfx:fixO (hopD a) (2+sizeA (hopE a))=(true,0):=by
  rw[j0i (by omega)]
  have:(hopD a).extract (2+sizeA (hopE a)) (hopD a).size=⟨#[]⟩:=k0a (by rw[J1.f0g,List.drop_of_length_le (by rw[J1.c0a];omega)])
  rw[this,y1a]
 have he:(hopD a).extract 2 (2+sizeA (hopE a))=hopS a:=k0a (by
  rw[n0a,e,Nat.add_sub_cancel_left]
  show List.take (sizeA (hopE a)) (hopS a).data.toList=_
  exact List.take_of_length_le (by rw[J1.c0a];omega))
 unfold out7
 rw[b0,if_neg (by omega),if_neg (by omega),hfx,if_pos ⟨rfl,rfl⟩,hf]
 unfold hopA;rw[he,ha]
end L1
namespace Ld
open Bits Pre
theorem k0h (a b:ByteArray):leadN a b≤a.size∧leadN a b≤b.size:=by
 have h:=c0q a.data.toList b.data.toList;rw[g0c,g0c]at h;unfold leadN;omega
theorem j1e (a b:ByteArray):a.extract 0 (leadN a b)=b.extract 0 (leadN a b):=by
 obtain⟨h1,h2⟩:=k0h a b;apply bytes_inj;rw[v0n,v0n];apply r0e
 · rw[List.length_take,List.length_take,g0c,g0c];omega
 · intro i hi;rw[List.length_take,g0c]at hi
   have e:∀ l:List UInt8,i / 8<leadN a b→bitL (l.take (leadN a b)) i=bitL l i:=by
    intro l h;unfold bitL;simp[List.getD,List.getElem?_take_of_lt h]
   rw[e _ (by omega),e _ (by omega)]
   exact l0x _ _ i (by unfold leadN at hi;omega)
end Ld
end Go.Proofs.YtllhobicfclheaaGreatDoor

/-
  A part of a proof. No conditions.
-/
import Derived.Test.YtllhobicfclheaaGreatDoorY04
import Derived.Test.YtllhobicfclheaaGreatDoorY05
namespace Go.Proofs.YtllhobicfclheaaGreatDoor
open Go.ChangeShapes Go.WideShapes Go.ChangeAt Go.RowKit
set_option linter.unusedVariables false
set_option maxRecDepth 100000
set_option maxHeartbeats 51200000
namespace Pre
open Bits
def leastN (n:Int):Nat:=(n.toNat+7) / 8
theorem f0t (n:Int)(w:World)(h: -9223372036854775808≤n∧n≤9223372036854775807) :
    Calls Tryz.prog 348 #[.int .i64 n] w fun e w'=>e = .returned (.int .i64 (leastN n:Nat))∧w=w':=by
 by_cases h0:n≤0
 · refine' qz67
   exact⟨int_eq (by unfold leastN;omega),rfl⟩
 · refine' qz67
   exact⟨int_eq (by unfold leastN;omega),rfl⟩
def rightZ (s:ByteArray)(n:Int):Bool:=(decide (s.size=4)||decide (s.size=16))&&(decide (0≤n)&&(decide (n≤8*(s.size:Int))&&cleanZ s n))
theorem l0a (s:ByteArray)(n:Int)(w:World)(hs:s.size≤maxLen) :
    Calls Tryz.prog 163 #[.string s,.int .i64 n] w fun e w'=>e = .returned (.bool (rightZ s n))∧Below w.heap.size w w':=by
 have hm:=hs;unfold maxLen at hm;by_cases h4:s.size=4∨s.size=16
 · by_cases h0:0≤n
   · by_cases h8:n≤8*(s.size:Int)
     · have HC:=Lib.hid (fun w=>p1f s n w (by omega))
       have HR:Hid (rightZ s n=cleanZ s n):=Lib.hid (by unfold rightZ;rcases h4 with h4|h4<;>simp[h4,h0]<;>omega)
       rw[HR.out];clear HR
       rcases h4 with h4|h4
       · refine' qz16;refine(HC.out _).mono ?_;refine' qz10;refine' qzj;exact⟨rfl,hb1⟩
       · refine' qz16;refine(HC.out _).mono ?_;refine' qz10;refine' qzj;exact⟨rfl,hb1⟩
     · have HR:Hid (rightZ s n=false):=Lib.hid (by unfold rightZ;simp[h8])
       rw[HR.out];clear HR
       rcases h4 with h4|h4
       · refine' qz67;exact⟨rfl,Below.refl _ _⟩
       · refine' qz67;exact⟨rfl,Below.refl _ _⟩
   · have HR:Hid (rightZ s n=false):=Lib.hid (by unfold rightZ;simp[h0])
     rw[HR.out];clear HR
     rcases h4 with h4|h4
     · refine' qz67;exact⟨rfl,Below.refl _ _⟩
     · refine' qz67;exact⟨rfl,Below.refl _ _⟩
 · have HR:Hid (rightZ s n=false):=Lib.hid (by unfold rightZ;simp at h4;simp[h4])
   rw[HR.out];clear HR;obtain⟨ha,hb⟩:=not_or.1 h4;clear h4;refine' qz67;exact⟨rfl,Below.refl _ _⟩
theorem e0j (l:List UInt8)(k n:Nat):keepL (l.take k) n=(keepL l n).take k:=by
 unfold keepL;apply List.ext_getElem?;intro i;by_cases h:i<k
 · rw[List.getElem?_take_of_lt h,List.getElem?_mapIdx,List.getElem?_mapIdx,List.getElem?_take_of_lt h]
 · rw[List.getElem?_eq_none (by simp;omega),List.getElem?_eq_none (by simp;omega)]
def cutL (l:List UInt8)(n:Int):List UInt8:=(keepL l n.toNat).take (leastN n)
theorem v0n (s:ByteArray)(k:Nat):(s.extract 0 k).data.toList=s.data.toList.take k:=by simp
theorem m1h (s:ByteArray)(n:Int):keepL (s.extract 0 (leastN n)).data.toList n.toNat=cutL s.data.toList n:=by
 rw[v0n,e0j];rfl
theorem z1h (s:ByteArray)(n:Int)(h:s.size<leastN n):s=⟨(cutL s.data.toList n).toArray⟩:=by
 have e:cutL s.data.toList n=s.data.toList:=by
  unfold cutL
  rw[List.take_of_length_le (by rw[r0a,g0c];omega)]
  exact f0l _ _ (by rw[g0c];unfold leastN at h;omega)
 rw[e]
theorem g0j (s:ByteArray)(n:Int)(w:World)(hs:s.size≤1048576)(h: -9223372036854775808≤n∧n≤9223372036854775807) :
    Calls Tryz.prog 330 #[.string s,.int .i64 n] w fun e w'=>e = .returned (.string ⟨(cutL s.data.toList n).toArray⟩)∧Below w.heap.size w w':=by
 have HL:=Lib.hid (fun w=>f0t n w h)
 have HM:=Lib.hid (z1h s n);have HE:=Lib.hid (m1h s n);by_cases hk:leastN n≤s.size
 · have HK:=Lib.hid (fun w=>i0r (s.extract 0 (leastN n)) n w (by simp;omega))
   rw[HE.out]at HK;clear HM HE;generalize ByteArray.mk (cutL s.data.toList n).toArray=cv at *;generalize leastN n=k at *
   have hsl:∀ wx,Sem.run Tryz.prog (Instr.slice 9 (Value.string s) none (some (Value.int IntKind.i64 (k:Int))) none) wx = .ok (.string (s.extract 0 k)) wx:=by
    intro wx
    have:=run_slice_string_h (P:=Tryz.prog) wx 9 s Tryz.underlying9 .i64 (k:Int) (by omega) (by omega)
    exact this
   generalize s.extract 0 k=x at *;refine' qz16;refine(HL.out _).mono ?_;refine' qz2p;refine' qzg;refine(HK.out _).mono ?_;refine' qz10;refine' qzj;exact⟨rfl,hb1⟩
 · have HQ:=Lib.hid (HM.out (by omega))
   clear HM HE;generalize ByteArray.mk (cutL s.data.toList n).toArray=cv at *;generalize leastN n=k at *;refine' qz16;refine(HL.out _).mono ?_;refine' qz2p;refine' qzj;exact⟨p0r HQ.out,Below.refl _ _⟩
def fillL (l:List UInt8)(m:Nat):List UInt8:=l++List.replicate (m - l.length) 0
theorem b0c (l:List UInt8)(m:Nat)(h:l.length≤m):(fillL l m).length=m:=by simp[fillL];omega
theorem g0h (s:ByteArray)(m:Int)(w:World)(hs:s.size≤1048576)(h:m≤1048576) :
    Calls Tryz.prog 329 #[.string s,.int .i64 m] w fun e w'=>e = .returned (.string ⟨(fillL s.data.toList m.toNat).toArray⟩)∧Below w.heap.size w w':=by
 by_cases hk:m≤s.size
 · have HQ:Hid (s=⟨(fillL s.data.toList m.toNat).toArray⟩):=by
    have e:fillL s.data.toList m.toNat=s.data.toList:=by unfold fillL;rw[g0c,show m.toNat - s.size=0 by omega];simp
    exact Lib.hid (by rw[e])
   generalize ByteArray.mk (fillL s.data.toList m.toNat).toArray=fv at *;refine' qz67;exact⟨p0r HQ.out,Below.refl _ _⟩
 · obtain⟨k,rfl⟩:∃ k:Nat,m=k:=⟨m.toNat,by omega⟩
   rw[Int.toNat_natCast]
   have hk':s.size<k:=by omega
   clear hk;refine' qz4l;go_in
   go_wp2_with (at_make;refine wpList_make_full _ rfl _ _ 96 rfl w.heap.size 5 i0 (.int .u8 0) 1 Tryz.underlying96 hi hz0 hz1 _ _ _ _ k rfl rfl rfl rfl (by rw[hz2];omega) (by unfold maxLen;omega) (by simp) ?_)
   intro w1 hown hgrow;have HG:=Lib.hid hgrow;have HO:=Lib.hid hown;clear hgrow hown
   have hsz:(Tryz.prog.info? 5).map (·.size)=some 1:=by rw[hi];simp[hz1]
   go_wp2_with (with_reducible refine o0j rfl (.tmp 17) (.tmp 18) 96 9 rfl 5 Tryz.underlying96 hsz w.heap.size k rfl _ rfl w.heap.size _ HO.out ?_ ?_)
   · omega
   refine' qzbe
   have HO2:Hid (w2.ownsRow w.heap.size 5 1 (.slice (some ⟨w.heap.size,0,none⟩) k k) k (cellsL (fillL s.data.toList k))):=by
    have e:cellsL (fillL s.data.toList k)=cellsL s.data.toList++List.drop s.size (madeCells #[Value.int IntKind.u8 0] k).toList:=by
     rw[toList_madeCells_one];simp[cellsL,fillL]
    exact Lib.hid (by rw[e];exact hown2)
   clear hown2 hgrow2 HG HO hi hz0 hz1 hz2 hsz
   have hc:=a0e w2 w.heap.size k w.heap.size (fillL s.data.toList k) k (by rw[b0c _ _ (by rw[g0c];omega)]) HO2.out
   clear HO2;refine' qzj;exact⟨rfl,HB2.out⟩
def leadN (a b:ByteArray):Nat:=alikeN a.data.toList b.data.toList / 8
theorem b1g (a b:ByteArray)(w:World)(ha:a.size≤1048576)(hb:b.size≤1048576) :
    Calls Tryz.prog 352 #[.string a,.string b] w fun e w'=>e = .returned (.int .i64 (leadN a b:Nat))∧Below w.heap.size w w':=by
 have HA:=Lib.hid (fun w=>d0t a b w ha hb)
 have hl:=c0q a.data.toList b.data.toList;rw[g0c,g0c]at hl
 have hq:alikeN a.data.toList b.data.toList≤8388608:=by omega
 clear hl;unfold leadN;generalize alikeN a.data.toList b.data.toList=n at *;refine' qz16;refine(HA.out _).mono ?_;refine' qz10;refine' qzj
 exact⟨int_eq (by omega),hb1⟩
end Pre
namespace AuR
def mk2:ByteArray:=⟨#[255,255]⟩
def starts (s:ByteArray):Bool:=(s.extract 0 2).toList == [255,255]
def isA (s:ByteArray):Bool:=decide (s.size=20)&&starts s
def getA (s:ByteArray):ByteArray:=if isA s then s.extract 2 s.size else ByteArray.empty
def putO (s:ByteArray):Bool:=decide (s.size=18)
def putA (s:ByteArray):ByteArray:=if s.size=18 then mk2++s else ByteArray.empty
theorem c1i {s:ByteArray}(h:s.size≠20):isA s=false:=by unfold isA;rw[decide_eq_false h];rfl
theorem e0p {s:ByteArray}(h:s.size=20):isA s=starts s:=by unfold isA;rw[decide_eq_true h];rfl
theorem r0m {s:ByteArray}(h:isA s=true):s.size=20:=Decidable.byContradiction fun n=>by rw[c1i n]at h;cases h
theorem b0i (s:ByteArray)(h:s.size=20)(w:World) :
    Calls Tryz.prog 276 #[.string s,.string ⟨#[255,255]⟩] w fun e w'=>e = .returned (.bool (starts s))∧w'=w:=by
 unfold starts;refine' qz93
theorem l0p (s:ByteArray)(h:s.size=20)(w:World) :
    Calls Tryz.prog 226 #[.string s,.string ⟨#[255,255]⟩] w fun e w'=>e = .returned (.bool (starts s))∧w'=w:=by
 have P1:=Lib.hid (fun w=>b0i s h w)
 go_in;refine' qz7b;refine' qz2x
theorem p1e (s:ByteArray)(h:isA s=true)(w:World) :
    Calls Tryz.prog 269 #[.string s,.string ⟨#[255,255]⟩] w fun e w'=>e = .returned (.string (s.extract 2 s.size))∧w'=w:=by
 have hz:=r0m h
 have P1:=Lib.hid (fun w=>b0i s hz w)
 rw[←e0p hz,h]at P1
 have h2:(2:Int)≤(s.size:Int):=by omega
 clear h hz;go_in;refine' qz7b;refine' qz2x
theorem s1i (s:ByteArray)(h:isA s=true)(w:World) :
    Calls Tryz.prog 212 #[.string s,.string ⟨#[255,255]⟩] w fun e w'=>e = .returned (.string (s.extract 2 s.size))∧w'=w:=by
 have P1:=Lib.hid (fun w=>p1e s h w)
 clear h;go_in;refine' qz7b;refine' qz2x
theorem c1r (s:ByteArray)(w:World) :
    Calls Tryz.prog 211 #[.string s] w fun e w'=>e = .returned (.bool (isA s))∧w'=w:=by
 by_cases h:s.size=20
 · have P1:=Lib.hid (fun w=>l0p s h w)
   rw[e0p h];generalize starts s=b at *;go_in;refine' qz7b;refine' qz2x
 · rw[c1i h];refine' qz93
theorem o0h (s:ByteArray)(w:World) :
    Calls Tryz.prog 153 #[.string s] w fun e w'=>e = .returned (.tuple #[.string (getA s),.bool (isA s)])∧w'=w:=by
 have P1:=Lib.hid (fun w=>c1r s w)
 cases h:isA s
 · have e:getA s=ByteArray.empty:=by unfold getA;rw[h];rfl
   rw[e];rw[h]at P1;clear h e;go_in;refine' qz7b;refine' qz8q
 · have e:getA s=s.extract 2 s.size:=by unfold getA;rw[h];rfl
   have P2:=Lib.hid (fun w=>s1i s h w)
   rw[e];rw[h]at P1;clear h e;generalize s.extract 2 s.size=t at *;go_in;refine' qz7b;refine' qzt;refine' qz2k;refine' qz8q
theorem c0b (s:ByteArray)(w:World) :
    Calls Tryz.prog 160 #[.string s] w fun e w'=>e = .returned (.tuple #[.string (putA s),.bool (putO s)])∧w'=w:=by
 by_cases h:s.size=18
 · have e:putA s=mk2++s:=by unfold putA;rw[if_pos h]
   have q:putO s=true:=decide_eq_true h;rw[e,q];unfold mk2;clear e q;go_in;refine' qz8q
 · have e:putA s=ByteArray.empty:=by unfold putA;rw[if_neg h]
   have q:putO s=false:=decide_eq_false h;rw[e,q];clear e q;go_in;refine' qz8q
theorem q0n {s:ByteArray}(h:s.size≠18):putO s=false∧putA s=ByteArray.empty:=⟨decide_eq_false h,by unfold putA;rw[if_neg h]⟩
theorem k0c {s:ByteArray}(h:s.size=18):putO s=true∧isA (putA s)=true∧getA (putA s)=s:=by
 have e:putA s=mk2++s:=by unfold putA;rw[if_pos h]
 have hm:mk2.size=2:=rfl
 have hz:(mk2++s).size=20:=by rw[ByteArray.size_append,hm,h]
 have hx:(mk2++s).extract 0 2=mk2:=ByteArray.extract_append_eq_left rfl
 have hs:isA (mk2++s)=true:=by
  rw[e0p hz];unfold starts;rw[hx,ByteArray.toList_eq];rfl
 refine⟨decide_eq_true h,by rw[e];exact hs,?_⟩
 rw[e];unfold getA;rw[if_pos hs]
 exact ByteArray.extract_append_eq_right rfl (by rw[ByteArray.size_append])
theorem d0s {s:ByteArray}(h:isA s=true):putO (getA s)=true∧putA (getA s)=s:=by
 have hz:=r0m h
 have e:getA s=s.extract 2 s.size:=by unfold getA;rw[if_pos h]
 have h18:(getA s).size=18:=by rw[e,ByteArray.size_extract];omega
 refine⟨decide_eq_true h18,?_⟩
 have h2:s.extract 0 2=mk2:=by
  have:=h;rw[e0p hz]at this;unfold starts at this;have h3:=eq_of_beq this;rw[ByteArray.toList_eq]at h3;apply ByteArray.ext;exact Array.ext' h3
 unfold putA;rw[if_pos h18,e,←h2,ByteArray.extract_append_extract];have:min 0 2=0:=rfl
 have:max 2 s.size=s.size:=by omega
 simp[this]
end AuR
namespace Rp
open Ms
def isN (s:ByteArray):Bool:=s.toList == [0,0,0,0]
def isCmd (n:Int):Bool:=n==1||n==2
def isMet (n:Int):Bool:=decide (1≤n)&&decide (n≤16)
def authB (m:M):Bool:=decide (m.auth.size=0)||(decide (m.auth.size=18)&&m.ver==2)
def headB (m:M):Bool:=isCmd m.cmd&&(isCmd m.ver&&authB m)
def allB (m:M):Bool:=m.cmd==1&&(m.tag==0&&(m.plen==0&&(isN m.pfx&&(isN m.next&&m.metric==16))))
def oneB (m:M):Bool:=m.tag==0&&(m.plen==32&&(decide (m.pfx.size=4)&&isN m.next))
def twoB (m:M):Bool:=Oct.fitsB m.tag 2&&(decide (m.pfx.size=4)&&(Pre.rightZ m.pfx m.plen&&decide (m.next.size=4)))
def routeB (m:M):Bool:=if m.family=0 then allB m else if m.family=2 then isMet m.metric&&(if m.ver=1 then oneB m else twoB m)else false
def rightB (m:M):Bool:=m.kind==1&&(B1.s0l m&&(headB m&&routeB m))
theorem q0h (s:ByteArray):isN s=true↔s=⟨#[0,0,0,0]⟩:=by
 unfold isN;rw[beq_iff_eq,ByteArray.toList_eq];constructor
 · intro h;exact ByteArray.ext (Array.toList_inj.1 h)
 · rintro rfl;rfl
theorem q0j {s:ByteArray}(h:isN s=true):s.size=4:=by rw[(q0h s).1 h];rfl
end Rp
namespace Ps
open Ms Rp
open Bk (E)
def bt (b:ByteArray)(i:Nat):Int:=((b.data.toList.getD i 0).toNat:Int)
theorem p0h (b:ByteArray)(i:Nat)(h:i<b.size):(b[i].toNat:Int)=bt b i:=by
 refine' qz9y;rfl
theorem d0b (b:ByteArray)(i:Nat):0≤bt b i:=Int.natCast_nonneg _
theorem o0b (b:ByteArray)(i:Nat):bt b i<256:=by
 unfold bt;have:=UInt8.toNat_lt (b.data.toList.getD i 0);omega
def hdAt (b:ByteArray):Int×Int:=if b.size<4 then((b.size:Int),2)else if isCmd (bt b 0)=false then(0,4)else if isCmd (bt b 1)=false then(1,4)else if Oct.zeroB (b.extract 2 4).data.toList=false then(2,5)else(0,0)
def cnAt (b:ByteArray):Int×Int:=if(b.size - 4)%20≠0 then((b.size:Int),2)else if b.size - 4=0 then((b.size:Int),8)else if 500<b.size - 4 then(504,8)else(0,0)
def says (b:ByteArray):Bool:=bt b 1==2&&AuR.isA (b.extract 4 24)
def atN (b:ByteArray):Nat:=if says b then 24 else 4
def base (b:ByteArray):M:={ M.zero with kind:=1,cmd:=bt b 0,ver:=bt b 1}
def hdM (b:ByteArray):M:={ base b with auth:=if says b then AuR.getA (b.extract 4 24)else ByteArray.empty}
def plenE (h:M)(e:E):Int:=if e.fam=0 then 0 else if h.ver=1 then 32 else((Mask.plenN e.mask:Nat):Int)
def routeM (h:M)(e:E):M:={ h with family:=e.fam,tag:=e.tag,pfx:=e.addr,plen:=plenE h e,next:=e.next,metric:=e.met}
def ckMet (e:E):Int:=if isMet e.met then 0 else 6
def ck1 (e:E):Int:=if e.tag==0&&(isN e.mask&&isN e.next)then ckMet e else 5
def ck2 (e:E):Int:=if Mask.isMask e.mask&&Pre.rightZ e.addr ((Mask.plenN e.mask:Nat):Int)then ckMet e else 7
def ck0 (h:M)(e:E)(alone:Bool):Int:=if alone&&(isN e.mask&&rightB (routeM h e))then 0 else 7
def ckE (h:M)(e:E)(alone:Bool):Int:=if e.fam=0 then ck0 h e alone else if e.fam=2 then(if h.ver=1 then ck1 e else ck2 e)else 4
def entP (b:ByteArray)(p:Nat):E:=Ent.E.of (b.extract p (p+20))
def bad (f:Nat→Int)(n:Nat):Option Nat:=(List.range n).find? fun i=>f i != 0
theorem d0d {f:Nat→Int}{n:Nat}(h:∀ i,i<n→f i=0):bad f n=none:=by
 unfold bad;rw[List.find?_eq_none];intro i hi;have:=h i (List.mem_range.1 hi);simp[this]
theorem j0e {f:Nat→Int}{n k:Nat}(hk:k<n)(h:∀ i,i<k→f i=0)(hn:f k≠0):bad f n=some k:=by
 unfold bad;rw[List.find?_range_eq_some]
 exact⟨by simpa using hn,List.mem_range.2 hk,fun j hj=>by simp[h j hj]⟩
def ents (h:M)(b:ByteArray)(p n:Nat)(alone:Bool):List M×Int×Int:=
  match bad (fun i=>ckE h (entP b (p+20*i)) alone) n with
  | some i=>([],((p+20*i:Nat):Int),ckE h (entP b (p+20*i)) alone)
  | none=>((List.range n).map fun i=>routeM h (entP b (p+20*i)),0,0)
theorem o0l {h:M}{b:ByteArray}{p n k:Nat}{alone:Bool}(hk:k<n)(hl:∀ i,i<k→ckE h (entP b (p+20*i)) alone=0)(hn:ckE h (entP b (p+20*k)) alone≠0) :
    ents h b p n alone=([],((p+20*k:Nat):Int),ckE h (entP b (p+20*k)) alone):=by
 unfold ents;rw[j0e hk hl hn]
theorem a0f {h:M}{b:ByteArray}{p n:Nat}{alone:Bool}(hl:∀ i,i<n→ckE h (entP b (p+20*i)) alone=0) :
    ents h b p n alone=((List.range n).map fun i=>routeM h (entP b (p+20*i)),0,0):=by
 unfold ents;rw[d0d hl]
def rts (h:M)(b:ByteArray)(p k:Nat):List M:=(List.range k).map fun i=>routeM h (entP b (p+20*i))
theorem q0g (h:M)(b:ByteArray)(p k:Nat):(rts h b p k).length=k:=by simp[rts]
theorem o0q (h:M)(b:ByteArray)(p k:Nat):rts h b p (k+1)=rts h b p k ++ [routeM h (entP b (p+20*k))]:=by simp[rts,List.range_succ]
def cntN (b:ByteArray):Nat:=(b.size - atN b) / 20
def out (b:ByteArray):List M×Int×Int:=
  if(hdAt b).2≠0 then([],hdAt b)else if(cnAt b).2≠0 then([],cnAt b)else if atN b=b.size then([],(b.size:Int),8)else ents (hdM b) b (atN b) (cntN b) (decide (atN b+20=b.size))
theorem z0p {b:ByteArray}(h:(hdAt b).2=0):4≤b.size∧isCmd (bt b 0)=true∧isCmd (bt b 1)=true∧Oct.zeroB (b.extract 2 4).data.toList=true:=by
 unfold hdAt at h;by_cases h1:b.size<4
 · rw[if_pos h1]at h;simp at h
 rw[if_neg h1]at h;by_cases h2:isCmd (bt b 0)=false
 · rw[if_pos h2]at h;simp at h
 rw[if_neg h2]at h;by_cases h3:isCmd (bt b 1)=false
 · rw[if_pos h3]at h;simp at h
 rw[if_neg h3]at h;by_cases h4:Oct.zeroB (b.extract 2 4).data.toList=false
 · rw[if_pos h4]at h;simp at h
 exact⟨by omega,by simpa using h2,by simpa using h3,by simpa using h4⟩
theorem p1g {b:ByteArray}(h:(cnAt b).2=0)(h4:4≤b.size):∃ n,1≤n∧n≤25∧b.size=4+20*n:=by
 unfold cnAt at h;by_cases h1:(b.size - 4)%20≠0
 · rw[if_pos h1]at h;simp at h
 rw[if_neg h1]at h;by_cases h2:b.size - 4=0
 · rw[if_pos h2]at h;simp at h
 rw[if_neg h2]at h;by_cases h3:500<b.size - 4
 · rw[if_pos h3]at h;simp at h
 exact⟨(b.size - 4) / 20,by omega,by omega,by omega⟩
theorem l0z (b:ByteArray):atN b=4∨atN b=24:=by unfold atN;split<;>simp
end Ps
namespace Es
open Ms Rp Ps
open Bk (E)
def maskM (m:M):ByteArray:=if m.family=2∧m.ver=2 then Mask.ofB m.plen else⟨#[0,0,0,0]⟩
def entryM (m:M):E:=⟨m.family,m.tag,m.pfx,maskM m,m.next,m.metric⟩
def lineL (m:M):List UInt8:=(Ent.putE (entryM m)).data.toList
def hdL (f:M):List UInt8:=Ent.layN f.cmd 1++(Ent.layN f.ver 1++([0,0]++(AuR.putA f.auth).data.toList))
def at0 (l:List M)(i:Nat):M:=l.getD i M.zero
theorem m0d (l:List M)(i:Nat)(h:i<l.length):at0 l i=l[i]:=by unfold at0;rw[List.getD_eq_getElem?_getD,List.getElem?_eq_getElem h];rfl
def wrtL (l:List M):List UInt8:=hdL (at0 l 0)++l.flatMap lineL
def most (m:M):Nat:=if m.auth.size=0 then 25 else 24
def tog (a b:M):Bool:=a.family != 0&&(b.family != 0&&(a.cmd==b.cmd&&(a.ver==b.ver&&a.auth.toList==b.auth.toList)))
def ckT (l:List M)(i:Nat):Int:=if i=most (at0 l 0)then 8 else if 0<i∧tog (at0 l 0) (at0 l i)=false then 7 else 0
def ckW (l:List M)(i:Nat):Int:=if rightB (at0 l i)then 0 else 1
def enc (l:List M):ByteArray×Int×Int:=
  match bad (ckW l) l.length with
  | some i=>(ByteArray.mk #[],((i:Nat):Int),1)
  | none=>if l.length=0 then(⟨#[]⟩,0,8)else
    match bad (ckT l) l.length with
    | some i=>(ByteArray.mk #[],((i:Nat):Int),ckT l i)
    | none=>(⟨(wrtL l).toArray⟩,0,0)
theorem g0d {l:List M}{k:Nat}(hk:k<l.length)(h:∀ i,i<k→ckW l i=0)(hn:ckW l k≠0):enc l=(ByteArray.mk #[],((k:Nat):Int),1):=by
 unfold enc;rw[j0e hk h hn]
theorem q0e {l:List M}(h:l.length=0):enc l=(ByteArray.mk #[],0,8):=by
 unfold enc
 rw[d0d (fun i hi=>absurd hi (by omega)),if_pos h]
theorem z0h {l:List M}{k:Nat}(hw:∀ i,i<l.length→ckW l i=0)(hk:k<l.length)(h:∀ i,i<k→ckT l i=0)(hn:ckT l k≠0):enc l=(ByteArray.mk #[],((k:Nat):Int),ckT l k):=by
 unfold enc
 rw[d0d hw,if_neg (by omega),j0e hk h hn]
theorem u0l {l:List M}(hw:∀ i,i<l.length→ckW l i=0)(h0:l.length≠0)(h:∀ i,i<l.length→ckT l i=0):enc l=(ByteArray.mk (wrtL l).toArray,0,0):=by
 unfold enc;rw[d0d hw,if_neg h0,d0d h]
theorem u0j {l:List M}{i:Nat}:ckW l i=0↔rightB (at0 l i)=true:=by
 unfold ckW
 cases rightB (at0 l i)<;>simp
theorem c0i {l:List M}(h:∀ i,i<l.length→ckW l i=0):∀ m∈l,rightB m=true:=by
 intro m hm;obtain⟨i,hi,rfl⟩:=List.getElem_of_mem hm;have:=u0j.1 (h i hi);rwa [m0d l i hi]at this
end Es
namespace PRt
open Ms Box Rp Hs
open Go.Proofs.YtllhobicfclheaaGreatDoor.Or (p0a)
theorem a0n (n:Int)(w:World):Calls Tryz.prog 145 #[.int .i64 n] w fun e w'=>e = .returned (.bool (isCmd n))∧w=w':=by
 refine' qzau
 have e1:(n==1)=false:=by simpa using h1
 refine' qzbp;rw[e];clear e;refine' qz93
theorem b1b (n:Int)(w:World):Calls Tryz.prog 146 #[.int .i64 n] w fun e w'=>e = .returned (.bool (isCmd n))∧w=w':=by
 refine' qzau
 have e1:(n==1)=false:=by simpa using h1
 refine' qzbp;rw[e];clear e;refine' qz93
theorem y0m (n:Int)(w:World):Calls Tryz.prog 149 #[.int .i64 n] w fun e w'=>e = .returned (.bool (isMet n))∧w=w':=by
 refine' qzdg
theorem boxed (w:World)(m:M):Bx (w.alloc (.cells m.cells 29)) w.heap.size m∧Below w.heap.size w (w.alloc (.cells m.cells 29)):=⟨Bx.new w m,balloc (Below.refl _ w) _⟩
theorem h1o (m:M)(w:World):Calls Tryz.prog 148 #[.agg m.cells] w fun e w'=>e = .returned (.bool (allB m))∧Below w.heap.size w w':=by
 refine' qz6l;have c1:=b0.cs.c1;have c6:=b0.cs.c6;have c7:=b0.cs.c7;have c8:=b0.cs.c8;have c9:=b0.cs.c9;have c10:=b0.cs.c10;clear b0
 have HA:=Lib.hid (show allB m=(m.cmd==1&&(m.tag==0&&(m.plen==0&&(isN m.pfx&&(isN m.next&&m.metric==16)))))from rfl)
 have n1:(m.pfx.toList == [0,0,0,0])=isN m.pfx:=rfl
 have n2:(m.next.toList == [0,0,0,0])=isN m.next:=rfl
 generalize isN m.pfx=x4 at *
 generalize isN m.next=x5 at *
 generalize h1:(m.cmd==1)=x1 at *;generalize h2:(m.tag==0)=x2 at *;generalize h3:(m.plen==0)=x3 at *;generalize h6:(m.metric==16)=x6 at *;cases x1
 · have HZ:=Lib.hid (show allB m=false by rw[HA.out];rfl)
   clear HA;refine' qz1o
 cases x2
 · have HZ:=Lib.hid (show allB m=false by rw[HA.out];rfl)
   clear HA;refine' qz1o
 cases x3
 · have HZ:=Lib.hid (show allB m=false by rw[HA.out];rfl)
   clear HA;refine' qz1o
 cases x4
 · have HZ:=Lib.hid (show allB m=false by rw[HA.out];rfl)
   clear HA;refine' qz1o
 cases x5
 · have HZ:=Lib.hid (show allB m=false by rw[HA.out];rfl)
   clear HA;refine' qz1o
 have HZ:=Lib.hid (show allB m=x6 by rw[HA.out];cases x6<;>rfl)
 clear HA;refine' qz1o
-- GEN
theorem v1l (m:M)(w:World):Calls Tryz.prog 150 #[.agg m.cells] w fun e w'=>e = .returned (.bool (oneB m))∧Below w.heap.size w w':=by
 refine' qz6l;have c6:=b0.cs.c6;have c7:=b0.cs.c7;have c8:=b0.cs.c8;have c9:=b0.cs.c9;refine' qz6h
 have HA:=Lib.hid (show oneB m=(m.tag==0&&(m.plen==32&&(decide (m.pfx.size=4)&&isN m.next)))from rfl)
 have n5:(m.next.toList == [0,0,0,0])=isN m.next:=rfl
 have n4:((m.pfx.size:Int)==4)=decide (m.pfx.size=4):=by rw[Bool.eq_iff_iff,beq_iff_eq,decide_eq_true_iff];omega
 generalize isN m.next=x4 at *
 generalize decide (m.pfx.size=4)=x3 at *;generalize h1:(m.tag==0)=x1 at *;generalize h2:(m.plen==32)=x2 at *;cases x1
 · have HZ:=Lib.hid (show oneB m=false by rw[HA.out];rfl)
   clear HA;refine' qz1o
 cases x2
 · have HZ:=Lib.hid (show oneB m=false by rw[HA.out];rfl)
   clear HA;refine' qz1o
 cases x3
 · have HZ:=Lib.hid (show oneB m=false by rw[HA.out];rfl)
   clear HA;refine' qz1o
 have HZ:=Lib.hid (show oneB m=x4 by rw[HA.out];cases x4<;>rfl)
 clear HA;refine' qz1o
theorem o1l (m:M)(w:World):Calls Tryz.prog 151 #[.agg m.cells] w fun e w'=>e = .returned (.bool (twoB m))∧Below w.heap.size w w':=by
 refine' qz6l;have c6:=b0.cs.c6;have c7:=b0.cs.c7;have c8:=b0.cs.c8;have c9:=b0.cs.c9;refine' qz6h
 have HA:=Lib.hid (show twoB m=(Oct.fitsB m.tag 2&&(decide (m.pfx.size=4)&&(Pre.rightZ m.pfx m.plen&&decide (m.next.size=4))))from rfl)
 have P1:=Lib.hid (fun W=>Oct.k0b m.tag 2 W)
 have P3:=Lib.hid (fun W (h:m.pfx.size=4)=>Pre.l0a m.pfx m.plen W (by unfold maxLen;omega))
 have n5:((m.next.size:Int)==4)=decide (m.next.size=4):=by rw[Bool.eq_iff_iff,beq_iff_eq,decide_eq_true_iff];omega
 have n4:((m.pfx.size:Int)==4)=decide (m.pfx.size=4):=by rw[Bool.eq_iff_iff,beq_iff_eq,decide_eq_true_iff];omega
 generalize Oct.fitsB m.tag 2=x1 at *;generalize Pre.rightZ m.pfx m.plen=x3 at *
 generalize decide (m.next.size=4)=x4 at *
 cases x1
 · have HZ:=Lib.hid (show twoB m=false by rw[HA.out];rfl)
   clear HA;refine' qz2q;refine' qz1o
 by_cases h4:m.pfx.size=4;rotate_left
 · rw[decide_eq_false h4]at n4 HA
   have HZ:=Lib.hid (show twoB m=false by rw[HA.out];rfl)
   clear HA h4;refine' qz2q;refine' qz1o
 rw[decide_eq_true h4]at n4 HA
 have P3:=Lib.hid (fun W=>P3.out W h4)
 clear h4;cases x3
 · have HZ:=Lib.hid (show twoB m=false by rw[HA.out];rfl)
   clear HA;refine' qz2q;refine' qz25;refine' qz4c;clear hb c6 c7 c8 c9;refine' qz1o
 have HZ:=Lib.hid (show twoB m=x4 by rw[HA.out];cases x4<;>rfl)
 clear HA;refine' qz2q;refine' qz25;refine' qz4c;have b1:=B0.out.below hb;have d9:=b1.cs.c9;clear hb c6 c7 c8 c9 b1;refine' qz1o
theorem l1h (m:M)(w:World):Calls Tryz.prog 147 #[.agg m.cells] w fun e w'=>e = .returned (.bool (authB m))∧Below w.heap.size w w':=by
 refine' qz6l;have c2:=b0.cs.c2;have c3:=b0.cs.c3;refine' qz6h
 have HA:=Lib.hid (show authB m=(decide (m.auth.size=0)||(decide (m.auth.size=18)&&m.ver==2))from rfl)
 have P1:=Lib.hid (fun W=>AuR.c0b m.auth W)
 have hp:AuR.putO m.auth=decide (m.auth.size=18):=rfl;rw[hp]at P1;clear hp;by_cases h0:m.auth.size=0
 · have HZ:=Lib.hid (show authB m=true by rw[HA.out,decide_eq_true h0];rfl)
   have he:m.auth=⟨#[]⟩:=ByteArray.ext (Array.eq_empty_of_size_eq_zero h0);rw[he]at c3;clear HA h0 he P1;refine' qz1o
 have hn:(m.auth.toList == [])=false:=by
  rw[beq_eq_false_iff_ne];intro h;rw[ByteArray.toList_eq]at h
  exact h0 (by have:=congrArg List.length h;simpa using this)
 have hn2:m.auth.toList.isEmpty=false:=by
  cases h:m.auth.toList
  · rw[h]at hn;cases hn
  · rfl
 rw[decide_eq_false h0]at HA;clear h0;generalize decide (m.auth.size=18)=x1 at *;generalize h2:(m.ver==2)=x2 at *;cases x1
 · have HZ:=Lib.hid (show authB m=false by rw[HA.out];rfl)
   clear HA;refine' qz2q;refine' qz1o
 have HZ:=Lib.hid (show authB m=x2 by rw[HA.out];cases x2<;>rfl)
 clear HA;refine' qz2q;refine' qz1o
theorem q0c (m:M)(w:World):Calls Tryz.prog 78 #[.agg m.cells] w fun e w'=>e = .returned (.bool (headB m))∧Below w.heap.size w w':=by
 refine' qz6l;have c1:=b0.cs.c1;have c2:=b0.cs.c2;refine' qz6h
 have HA:=Lib.hid (show headB m=(isCmd m.cmd&&(isCmd m.ver&&authB m))from rfl)
 have P1:=Lib.hid (fun W=>a0n m.cmd W)
 have P2:=Lib.hid (fun W=>b1b m.ver W)
 have P3:=Lib.hid (fun W=>l1h m W)
 generalize isCmd m.cmd=x1 at *;generalize isCmd m.ver=x2 at *;generalize authB m=x3 at *;cases x1
 · have HZ:=Lib.hid (show headB m=false by rw[HA.out];rfl)
   clear HA;refine' qz2q;refine' qz1o
 cases x2
 · have HZ:=Lib.hid (show headB m=false by rw[HA.out];rfl)
   clear HA;refine' qz2q;refine' qz7c;refine' qz1o
 have HZ:=Lib.hid (show headB m=x3 by rw[HA.out];cases x3<;>rfl)
 clear HA;refine' qz2q;refine' qz7c;refine' qz1w;refine(P3.out _).mono ?_;refine' qz4c;clear hb c1 c2;refine' qz1o
theorem y0h (m:M)(w:World):Calls Tryz.prog 79 #[.agg m.cells] w fun e w'=>e = .returned (.bool (routeB m))∧Below w.heap.size w w':=by
 refine' qz6l;have c2:=b0.cs.c2;have c4:=b0.cs.c4;have c10:=b0.cs.c10;refine' qz6h
 have P0:=Lib.hid (fun W=>h1o m W)
 have P1:=Lib.hid (fun W=>y0m m.metric W)
 have P2:=Lib.hid (fun W=>v1l m W)
 have P3:=Lib.hid (fun W=>o1l m W)
 have HA:=Lib.hid (show routeB m=if m.family=0 then allB m else if m.family=2 then isMet m.metric&&(if m.ver=1 then oneB m else twoB m)else false from rfl)
 by_cases h0:m.family=0
 · have HZ:=Lib.hid (show routeB m=allB m by rw[HA.out,if_pos h0])
   have e0:(m.family==0)=true:=by simpa using h0
   clear HA h0
   go_wp2_with (first|(refine j0a (b:=w.heap.size) (m:=m) rfl _ rfl rfl B0.out ?_))
   refine(P0.out _).mono ?_;refine' qz4c;clear hb c2 c4 c10;refine' qz1o
 have e0:(m.family==0)=false:=by simpa using h0
 by_cases h2:m.family=2;rotate_left
 · have HZ:=Lib.hid (show routeB m=false by rw[HA.out,if_neg h0,if_neg h2])
   have e2:(m.family==2)=false:=by simpa using h2
   clear HA h0 h2;refine' qz1o
 have e2:(m.family==2)=true:=by simpa using h2
 by_cases h1:m.ver=1
 · have HA2:=Lib.hid (show routeB m=(isMet m.metric&&oneB m) by rw[HA.out,if_neg h0,if_pos h2,if_pos h1])
   have e1:(m.ver==1)=true:=by simpa using h1
   clear HA h0 h2 h1 P0 P3;generalize isMet m.metric=x1 at *;generalize oneB m=x2 at *;cases x1
   · have HZ:=Lib.hid (show routeB m=false by rw[HA2.out];rfl)
     clear HA2;refine' qz2q;refine' qz1o
   have HZ:=Lib.hid (show routeB m=x2 by rw[HA2.out];cases x2<;>rfl)
   clear HA2;refine' qz2q;refine' qz1w;refine' qzs;refine' qz4c;clear hb c2 c4 c10;refine' qz1o
 · have HA2:=Lib.hid (show routeB m=(isMet m.metric&&twoB m) by rw[HA.out,if_neg h0,if_pos h2,if_neg h1])
   have e1:(m.ver==1)=false:=by simpa using h1
   clear HA h0 h2 h1 P0 P2;generalize isMet m.metric=x1 at *;generalize twoB m=x2 at *;cases x1
   · have HZ:=Lib.hid (show routeB m=false by rw[HA2.out];rfl)
     clear HA2;refine' qz2q;refine' qz1o
   have HZ:=Lib.hid (show routeB m=x2 by rw[HA2.out];cases x2<;>rfl)
   clear HA2;refine' qz2q;refine' qz1w;refine(P3.out _).mono ?_;refine' qz4c;clear hb c2 c4 c10;refine' qz1o
theorem l0a (m:M)(w:World)(hm:m.In w):Calls Tryz.prog 31 #[.agg m.cells] w fun e w'=>e = .returned (.bool (rightB m))∧Below w.heap.size w w':=by
 have hm1:=hm.below (boxed w m).2;refine' qz6l;have c0:=b0.cs.c0;refine' qz6h
 have HA:=Lib.hid (show rightB m=(m.kind==1&&(B1.s0l m&&(headB m&&routeB m)))from rfl)
 have P2:=Lib.hid (fun W=>q0c m W)
 have P3:=Lib.hid (fun W=>y0h m W)
 have P1:=Lib.hid (fun(h:m.kind=1)=>B1.z0c m V h hm1)
 clear hm hm1;generalize B1.s0l m=x2 at *;generalize headB m=x3 at *;generalize routeB m=x4 at *;by_cases h1:m.kind=1;rotate_left
 · have e1:(m.kind==1)=false:=by simpa using h1
   rw[e1]at HA
   have HZ:=Lib.hid (show rightB m=false by rw[HA.out];rfl)
   clear HA h1 P1;refine' qz1o
 have e1:(m.kind==1)=true:=by simpa using h1
 rw[e1]at HA;have P1:=Lib.hid (P1.out h1);clear h1;cases x2
 · refine' qz64;refine' qz1x;refine' qz4c;clear hb c0;refine' qz1o
 cases x3
 · refine' qz64;refine' qz1x;refine' qz4c;have B1:=Lib.hid (B0.out.below hb);clear hb c0
   go_wp2_with (first|(refine p0a (v := .agg (M.cells m)) (by rfl) rfl (a0b (x := .tmp 1) rfl rfl B1.out) ?_))
   refine' qzs;refine' qzct;have bel:=bcall bel hb;clear hb;refine' qz1o
 have HZ:=Lib.hid (show rightB m=x4 by rw[HA.out];cases x4<;>rfl)
 clear HA;refine' qz1x;refine' qz4c;have B1:=Lib.hid (B0.out.below hb);clear hb c0
 go_wp2_with (first|(refine p0a (v := .agg (M.cells m)) (by rfl) rfl (a0b (x := .tmp 1) rfl rfl B1.out) ?_))
 refine' qzs;refine' qzct;have bel:=bcall bel hb;have B2:=Lib.hid (B1.out.below hb);clear hb
 go_wp2_with (first|(refine p0a (v := .agg (M.cells m)) (by rfl) rfl (a0b (x := .tmp 1) rfl rfl B2.out) ?_))
 refine(P3.out _).mono ?_;rintro e w4 ⟨rfl,hb⟩;have bel:=bcall bel hb;clear hb;refine' qz1o
theorem l0f (m:M)(w:World)(hm:m.In w):Calls Tryz.prog 85 #[.agg m.cells] w fun e w'=>e = .returned (.bool (!rightB m))∧Below w.heap.size w w':=by
 have hm1:=hm.below (boxed w m).2;refine' qz6l;refine' qz6h;have P1:=Lib.hid (l0a m V hm1);clear hm hm1;refine' qzav;refine' qz4c;clear hb;refine' qzj;exact⟨rfl,bel⟩
end PRt
end Go.Proofs.YtllhobicfclheaaGreatDoor

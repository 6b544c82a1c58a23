/-
  A part of a proof. No conditions.
-/
import Derived.Test.YtllhobicfclheaaGreatDoorY42
namespace Go.Proofs.YtllhobicfclheaaGreatDoor
open Go.ChangeShapes Go.WideShapes Go.ChangeAt Go.RowKit
set_option linter.unusedVariables false
set_option maxRecDepth 100000
set_option maxHeartbeats 51200000
namespace K3
open Ms Box S1
open Lk (shA lgA link)
open Nu (k0a n0a)
open J1
open J2 (g0a int_eq n0d nil_eq k0f size_eq)
open J4 (shU u0c z0b)
open An Tc K1 Kb K2
open Bits (keepL r0a f0l c0m)
open Pre (leastN cutL fillL b0c)
open Bk (Bk Sh b0a f0a a0a o0a q0a loadVarK)
open Hs
open Go.Proofs.YtllhobicfclheaaGreatDoor.Or (p0a)
def shC (ae:Int)(a:ByteArray):ByteArray:=if ae=3 then shA a else a
theorem r0k (ae:Int)(a:ByteArray)(w:World):Calls Tryz.prog 360 #[.int .i64 ae,.string a] w fun e w'=>e = .returned (.string (shC ae a))∧w=w':=by
 by_cases h3:ae=3
 · subst h3
   have HK:=Lib.hid (show shC 3 a=shA a from rfl)
   have P1:=Lib.hid (fun V=>Lk.r0k a V)
   generalize shC 3 a=y at *;generalize shA a=z at *;go_in;refine' qz2h;refine' qzj;exact⟨n0d HK.out.symm,rfl⟩
 have HK:=Lib.hid (show shC ae a=a by unfold shC;rw[if_neg h3])
 have e3:(ae==3)=false:=by simpa using h3
 have f3:(ae != 3)=true:=by rw[bne,e3];rfl
 refine' qz67;exact⟨n0d HK.out.symm,rfl⟩
def lgC (ae:Int)(a:ByteArray):ByteArray:=if ae=3 then lgA a else a
theorem a0g (ae:Int)(a:ByteArray)(w:World):Calls Tryz.prog 341 #[.int .i64 ae,.string a] w fun e w'=>e = .returned (.string (lgC ae a))∧w=w':=by
 by_cases h3:ae=3
 · subst h3
   have HK:=Lib.hid (show lgC 3 a=lgA a from rfl)
   have P1:=Lib.hid (fun V=>Lk.a0g a V)
   generalize lgC 3 a=y at *;generalize lgA a=z at *;go_in;refine' qz2h;refine' qzj;exact⟨n0d HK.out.symm,rfl⟩
 have HK:=Lib.hid (show lgC ae a=a by unfold lgC;rw[if_neg h3])
 have e3:(ae==3)=false:=by simpa using h3
 have f3:(ae != 3)=true:=by rw[bne,e3];rfl
 refine' qz67;exact⟨n0d HK.out.symm,rfl⟩
theorem d1h (a:ByteArray)(w:World)(ha:a.size≤1000):Calls Tryz.prog 361 #[.string a] w fun e w'=>e = .returned (.string (idA a))∧Below w.heap.size w w':=by
 have P1:=Lib.hid (fun V=>Oct.y0e 8 V (by decide))
 have P1:=Lib.hid (show ∀ V,Calls Tryz.prog 159 #[.int .i64 8] V fun e w'=>e = .returned (.string ⟨(List.replicate 8 (0:UInt8)).toArray⟩)∧Below V.heap.size V w' from P1.out)
 obtain⟨x,hx⟩:∃ x:ByteArray,ByteArray.mk (List.replicate 8 (0:UInt8)).toArray=x:=⟨_,rfl⟩
 have hxs:x.size=8:=by rw[←hx];rfl
 have hxl:x.data.toList=List.replicate 8 0:=by rw[←hx]
 rw[hx]at P1
 have HK:(x++a).extract a.size (x++a).size=idA a:=k0a (by
  rw[f0g,ByteArray.data_append,Array.toList_append,hxl]
  rfl)
 have hsz:(x++a).size=8+a.size:=by rw[ByteArray.size_append,hxs]
 have hcat:∀ W:World,(Op.stringOp .add x a).run Tryz.prog W = .ok (.string (x++a)) W:=fun W=>run_string_add_sum W x a (by omega)
 generalize x++a=z at *
 have hw:wrap64 ((z.size:Int) - 8)=(a.size:Int):=by rw[IntWalk.wrap64_in _ ⟨by omega,by omega⟩];omega
 have hsl:∀ wx,Sem.run Tryz.prog (Instr.slice 9 (Value.string z) (some (Value.int IntKind.i64 (a.size:Int))) none none) wx = .ok (.string (idA a)) wx:=fun wx=>by
  have:=F2.sl_l z (a.size:Int) a.size z.size rfl (by omega) rfl wx
  rw[HK]at this;exact this
 generalize idA a=y at *;clear HK hx hxl hsz hxs ha;go_in;refine' qzh;rintro r w' ⟨rfl,hb⟩;refine' qzj;exact⟨rfl,hb⟩
def stC (c:Kx)(v:Value):Array Value:=#[.string c.p0,.string c.p1,.string c.p2,.string c.p3,.string c.n0,.string c.n1,.string c.id,v]
theorem shS:Sh Tryz.prog 211 8:=⟨_,Tryz.underlying211,by kernel_rfl⟩
theorem oneS (c:Kx)(a:Option Addr)(n k:Nat):((stC c (.slice a n k)).all fun x=>x.oneCell')=true:=by simp[stC,Value.oneCell']
theorem n0b {ops:Array Oper}{rest:List Oper}{o:Oper}{a:Act}{w:World}{Q:Exit→Act→World→Prop}(hgd:o.guard=none)(x:Operand)(ho:o.op = .load 211 x){b:Nat}(hx:a.eval x = .pointer (some ⟨b,0,none⟩)){c:Kx}{v:Value}(hb:Bk 211 w b (stC c v))
    (h:wpList Tryz.prog ops Q rest (a.put o.dst (.agg (stC c v))) w):wpList Tryz.prog ops Q (o::rest) a w:=f0a shS hgd x ho hx hb rfl h
theorem f0b {ops:Array Oper}{rest:List Oper}{o:Oper}{a:Act}{w:World}{Q:Exit→Act→World→Prop}(hgd:o.guard=none)(x y:Operand)(ho:o.op = .store 211 x y){b:Nat}(hx:a.eval x = .pointer (some ⟨b,0,none⟩)){c c':Kx}{v:Value}{q:Option Addr}{n k:Nat}(hy:a.eval y = .agg (stC c' (.slice q n k)))(hb:Bk 211 w b (stC c v))
    (h:wpList Tryz.prog ops Q rest (a.put o.dst undef) (w.setRow b (stC c' (.slice q n k)))):wpList Tryz.prog ops Q (o::rest) a w:=a0a shS hgd x y ho hx hy hb rfl rfl (oneS c' q n k) h
theorem b0u {W:World}{b:Nat}{c:Kx}{v:Value}(h:Bk 211 W b (stC c v)){k:Nat}(hk:k<4):W.cell? ⟨b,k,none⟩=some (.string (c.pf k)):=by
 rcases(show k=0∨k=1∨k=2∨k=3 by omega)with rfl|rfl|rfl|rfl
 · exact h.cell 0 _ rfl
 · exact h.cell 1 _ rfl
 · exact h.cell 2 _ rfl
 · exact h.cell 3 _ rfl
theorem e1o {W:World}{b:Nat}{c:Kx}{v:Value}(h:Bk 211 W b (stC c v)){k:Nat}(hk:k<2):W.cell? ⟨b,4+k,none⟩=some (.string (c.nx k)):=by
 rcases(show k=0∨k=1 by omega)with rfl|rfl
 · exact h.cell 4 _ rfl
 · exact h.cell 5 _ rfl
theorem k0z (c:Kx)(a:ByteArray)(v:Value){k:Nat}(hk:k<4):(stC c v).setIfInBounds k (.string a)=stC (c.setP k a) v:=by
 rcases(show k=0∨k=1∨k=2∨k=3 by omega)with rfl|rfl|rfl|rfl<;>rfl
structure SU (w W:World)(b g:Nat)(c:Kx)(v:Value)(u:Up):Prop where
  s:Bk 211 W b (stC c v)
  u:Bk 223 W g u.cells
  tab:Tab W
  bel:Below w.heap.size w W
section
variable {w W w':World} {b g:Nat} {c:Kx} {v:Value} {u:Up}
theorem SU.call (h:SU w W b g c v u)(hb:Below W.heap.size W w'):SU w w' b g c v u:=⟨h.s.below hb,h.u.below hb,h.tab.below hb,h.bel.trans (hb.mono h.bel.size)⟩
theorem SU.drew (h:SU w W b g c v u):SU w W.drew b g c v u:=⟨h.s,h.u,h.tab.drew,h.bel.drew⟩
theorem SU.new (w:World)(c:Kx)(v:Value)(u:Up)(ht:Tab w):SU w ((w.alloc (.cells (stC c v) 211)).alloc (.cells u.cells 223)) w.heap.size (w.heap.size+1) c v u:=by
 have hu:=Bk.Bk.new 223 (w.alloc (.cells (stC c v) 211)) u.cells;rw[b0a]at hu;have hb:=balloc (balloc (Below.refl _ w) (.cells (stC c v) 211)) (.cells u.cells 223);exact⟨(Bk.Bk.new 211 w (stC c v)).old _,hu,ht.below hb,hb⟩
theorem heldU {P:Program}{f:Nat}{args:Array Value}{x:Ending}(h:Calls P f args W fun e w'=>e=x∧Below W.heap.size W w')(hS:SU w W b g c v u):Calls P f args W fun e w'=>e=x∧SU w w' b g c v u:=
  h.mono fun _ _ ⟨he,hb⟩=>⟨he,hS.call hb⟩
theorem heldQ {P:Program}{f:Nat}{args:Array Value}{x:Ending}(h:Calls P f args W fun e w'=>e=x∧W=w')(hS:SU w W b g c v u):Calls P f args W fun e w'=>e=x∧SU w w' b g c v u:=
  h.mono fun _ _ ⟨he,hb⟩=>⟨he,hb▸hS⟩
end
def x1 (c:Kx)(u:Up):ByteArray:=shC u.ae (c.pf u.ae)
def x2 (c:Kx)(u:Up):ByteArray:=⟨(cutL (x1 c u).data.toList (8*u.om)).toArray⟩
def x3 (c:Kx)(u:Up):ByteArray:=⟨(fillL (x2 c u++u.bytes).data.toList (sizeA u.ae)).toArray⟩
def x4 (c:Kx)(u:Up):ByteArray:=lgC u.ae (x3 c u)
theorem m1n {l:List UInt8}{n:Int}(h:0≤n):cutL l (8*n)=l.take n.toNat:=by
 unfold cutL leastN
 rw[show((8*n).toNat+7) / 8=n.toNat by omega]
 apply List.ext_getElem
 · rw[List.length_take,List.length_take,r0a]
 · intro i h1 h2
   have hi:i<n.toNat:=by rw[List.length_take]at h2;omega
   rw[List.getElem_take,List.getElem_take];apply UInt8.toNat_inj.1;rw[Bits.v0g]
   exact Bits.y0w _ _ (by omega)
theorem e0w {c:Kx}{ae:Int}(hc:Okc c)(h0:0≤ae)(h3:ae≤3):(shC ae (c.pf ae)).data.toList=(c.pf ae).data.toList.drop (baseN ae):=by
 by_cases k:ae=3
 · subst k
   show(shA (c.pf 3)).data.toList=(c.pf 3).data.toList.drop 8
   rcases hc.pf (ae:=3) (by decide) (by decide)with h|⟨h,_⟩
   · have e:(c.pf 3).data.toList = []:=List.length_eq_zero_iff.1 (by rw[c0a];exact h)
     have hl:link (c.pf 3)=false:=Lk.y0o (by omega)
     have:shA (c.pf 3)=⟨#[]⟩:=by unfold shA;rw[hl];rfl
     rw[this,e];rfl
   · have hl:link (c.pf 3)=true:=h;rw[Lk.d0m hl,f0g]
 · have e1:shC ae (c.pf ae)=c.pf ae:=by unfold shC;rw[if_neg k]
   have e2:baseN ae=0:=by unfold baseN;rw[if_neg k]
   rw[e1,e2];rfl
theorem b1p {c:Kx}{d:ByteArray}{u:Up}(hc:Okc c)(g:Cnt d u):(x2 c u).data.toList=omL c u:=by
 show cutL (shC u.ae (c.pf u.ae)).data.toList (8*u.om)=_
 rw[m1n g.om0,e0w hc g.ae0 g.ae3];rfl
theorem d1r {c:Kx}{d:ByteArray}{u:Up}(hc:Okc c)(g:Cnt d u):(x1 c u).size≤16:=by
 rw[←c0a]
 show(shC u.ae (c.pf u.ae)).data.toList.length≤16
 rw[e0w hc g.ae0 g.ae3,List.length_drop,c0a]
 rcases hc.pf g.ae0 g.ae3 with h|⟨h,h0⟩
 · omega
 · have:=k0v h (by have:=g.ae0;omega) g.ae3
   split at this<;>omega
theorem h0k (ae:Int):sizeA ae≤16:=by unfold sizeA;split<;>(try split)<;>(try split)<;>omega
theorem i0y {d:ByteArray}{u:Up}(g:Cnt d u):countN u.ae u.plen≤sizeA u.ae:=by
 rcases len_cases g.len with⟨e,h⟩|⟨e,_,k⟩|⟨e,_,k⟩|⟨e,_,k⟩<;>rw[e]<;>(try rw[h])<;>unfold countN sizeA leastN baseN<;>simp<;>omega
theorem a1q {c:Kx}{d:ByteArray}{u:Up}(hc:Okc c)(g:Cnt d u)(h:¬(0<u.om∧(c.pf u.ae).size=0)):(x1 c u).size≤16∧(x2 c u).size≤16∧u.bytes.size≤16∧(x2 c u++u.bytes).size≤16∧(x4 c u).size≤16:=by
 have h1:=d1r hc g
 have h2:(x2 c u).size=u.om.toNat:=by rw[←c0a,b1p hc g,w0s hc g h]
 have h3:=g.size;have h4:=i0y g;have h5:=g.omle;have h6:=g.om0;have h7:=h0k u.ae
 have h8:(x2 c u++u.bytes).size=countN u.ae u.plen:=by rw[ByteArray.size_append,h2,h3];omega
 have h9:(x3 c u).size=sizeA u.ae:=by
  unfold x3
  rw[d0c,b0c _ _ (by rw[c0a,h8];exact h4)]
 refine⟨h1,by omega,by omega,by omega,?_⟩
 unfold x4 lgC;split
 · unfold lgA;split
   · rename_i _ k;rw[ByteArray.size_append,k]
     show 8+8≤16
     omega
   · exact Nat.zero_le _
 · omega
theorem x_is {c:Kx}{d:ByteArray}{u:Up}(hc:Okc c)(g:Cnt d u)(h:¬(0<u.om∧(c.pf u.ae).size=0)):(⟨(keepL (x4 c u).data.toList u.plen.toNat).toArray⟩:ByteArray)=adrC c u:=by
 have e2:=b1p hc g
 have hl:(x2 c u++u.bytes).data.toList=omL c u++u.bytes.data.toList:=by rw[ByteArray.data_append,Array.toList_append,e2]
 have hz:(omL c u++u.bytes.data.toList).length=countN u.ae u.plen:=by rw[←v0q hc g h,d0c]
 have hcs:=i0y g;unfold adrC wholeP;congr 3
 show(lgC u.ae (x3 c u)).data.toList=wholeL u.ae _
 have e3:(x3 c u).data.toList=fillL (omL c u++u.bytes.data.toList) (sizeA u.ae):=by unfold x3;rw[hl]
 unfold lgC wholeL
 rcases len_cases g.len with⟨e,_⟩|⟨e,_⟩|⟨e,_⟩|⟨e,_⟩
 · rw[e]at e3 hz hcs⊢
   rw[if_neg (by decide),if_neg (by decide),if_neg (by decide),if_neg (by decide),e3]
   have:sizeA 0=0:=rfl
   have h0:omL c u++u.bytes.data.toList = []:=List.length_eq_zero_iff.1 (by omega)
   rw[h0];rfl
 · rw[e]at e3⊢
   rw[if_neg (by decide),if_pos rfl,e3]
   rfl
 · rw[e]at e3⊢
   rw[if_neg (by decide),if_neg (by decide),if_pos rfl,e3]
   rfl
 · rw[e]at e3 hcs hz⊢
   rw[if_pos rfl,if_neg (by decide),if_neg (by decide),if_pos rfl]
   have h8:(x3 c u).size=8:=by
    rw[←c0a,e3]
    exact b0c _ _ (by rw[hz];exact hcs)
   unfold lgA;rw[if_pos h8,ByteArray.data_append,Array.toList_append,e3];rfl
theorem u0h (c:Kx)(v:Value)(d:ByteArray)(u:Up)(w:World)(hc:Okc c)(g:Cnt d u)(h:¬(0<u.om∧(c.pf u.ae).size=0))(ht:Tab w) :
    Calls Tryz.prog 343 #[.agg (stC c v),.agg u.cells] w fun e w'=>e = .returned (.string (adrC c u))∧Below w.heap.size w w':=by
 have HA:=Lib.hid (x_is hc g h);obtain⟨hz1,hz2,hz3,hz4,hz5⟩:=a1q hc g h
 have P1:=Lib.hid (fun V=>r0k u.ae (c.pf u.ae) V)
 have P1:=Lib.hid (show ∀ V,Calls Tryz.prog 360 #[.int .i64 u.ae,.string (c.pf u.ae)] V fun e w'=>e = .returned (.string (x1 c u))∧V=w' from P1.out)
 have P2:=Lib.hid (fun V=>Pre.g0j (x1 c u) (8*u.om) V (by omega) (by have:=g.om0;have:=g.omle;have:=(count_le g.len).1;omega))
 have P2:=Lib.hid (show ∀ V,Calls Tryz.prog 330 #[.string (x1 c u),.int .i64 (8*u.om)] V fun e w'=>e = .returned (.string (x2 c u))∧Below V.heap.size V w' from P2.out)
 have P3:=Lib.hid (fun V=>Pre.g0h (x2 c u++u.bytes) (sizeA u.ae:Nat) V (by omega) (by have:=h0k u.ae;omega))
 have P3:=Lib.hid (show ∀ V,Calls Tryz.prog 329 #[.string (x2 c u++u.bytes),.int .i64 (sizeA u.ae:Nat)] V fun e w'=>e = .returned (.string (x3 c u))∧Below V.heap.size V w' from P3.out)
 have P4:=Lib.hid (fun V=>a0g u.ae (x3 c u) V)
 have P4:=Lib.hid (show ∀ V,Calls Tryz.prog 341 #[.int .i64 u.ae,.string (x3 c u)] V fun e w'=>e = .returned (.string (x4 c u))∧V=w' from P4.out)
 have P5:=Lib.hid (fun V=>Bits.i0r (x4 c u) u.plen V (by omega))
 rw[HA.out]at P5
 have hcat:∀ W:World,(Op.stringOp .add (x2 c u) u.bytes).run Tryz.prog W = .ok (.string (x2 c u++u.bytes)) W:=fun W=>run_string_add_sum W _ _ (by omega)
 have hmul:IntKind.i64.wrap (8*u.om)=8*u.om:=IntWalk.i64_in _ (by have:=g.om0;have:=g.omle;have:=(count_le g.len).1;omega)
 have HU:=Lib.hid (SU.new w c v u ht);generalize adrC c u=y at *;generalize x2 c u++u.bytes=z at *;have h0:=g.ae0;have h3:=g.ae3;clear HA hz1 hz2 hz3 hz4 hz5 hc h ht;generalize x1 c u=a1 at *;generalize x2 c u=a2 at *;generalize x3 c u=a3 at *;generalize x4 c u=a4 at *;clear g;obtain⟨ae,fl,plen,om,iv,seq,met,hav,yb,sa,sl,sc⟩:=u;simp only[]at *
 rcases(show ae=0∨ae=1∨ae=2∨ae=3 by omega)with rfl|rfl|rfl|rfl
 · clear h0 h3
   have P1:=Lib.hid (show ∀ V,Calls Tryz.prog 360 #[.int .i64 0,.string c.p0] V fun e w'=>e = .returned (.string a1)∧V=w' from P1.out)
   have P3:=Lib.hid (show ∀ V,Calls Tryz.prog 329 #[.string z,.int .i64 0] V fun e w'=>e = .returned (.string a3)∧Below V.heap.size V w' from P3.out)
   refine' qzi;change Code.wp _ _ _ _ ((w.alloc (.cells (stC c v) 211)).alloc (.cells (Up.cells ⟨0,fl,plen,om,iv,seq,met,hav,yb,sa,sl,sc⟩) 223));generalize (w.alloc (.cells (stC c v) 211)).alloc (.cells (Up.cells ⟨0,fl,plen,om,iv,seq,met,hav,yb,sa,sl,sc⟩) 223)=W at *
   refine wp_region_held_drew (S:=fun X=>SU w X w.heap.size (w.heap.size+1) c v ⟨0,fl,plen,om,iv,seq,met,hav,yb,sa,sl,sc⟩) (by kernel_rfl) HU.out.drew (fun hS=>?_)
   clear HU;generalize W.drew=X0 at *;refine H.tk (i:=0) (v:=?v0a0) ?h0a0 hS ?_
   case h0a0=>(intro w hw;go_simp;first|done|(with_reducible rfl))
   refine' qz0;refine H.tk (i:=1) (v := .int .i64 0) ?h1a0 hS ?_
   case h1a0=>exact(fun w hw=>by have c:=hw.u.cell 0 (.int .i64 0) rfl;go_simp)
   refine' qz0;refine H.tk (i:=2) (v:=?v2a0) ?h2a0 hS ?_
   case h2a0=>(intro w hw;go_simp;first|done|(with_reducible rfl))
   refine' qz0;refine H.tk (i:=3) (v := .int .i64 0) ?h3a0 hS ?_
   case h3a0=>exact(fun w hw=>by have c:=hw.u.cell 0 (.int .i64 0) rfl;go_simp)
   refine' qz0;refine H.tk (i:=4) (v:=?v4a0) ?h4a0 hS ?_
   case h4a0=>(intro w hw;go_simp;first|done|(with_reducible rfl))
   refine' qz0;refine H.tk (i:=5) (v:=?v5a0) ?h5a0 hS ?_
   case h5a0=>(intro w hw;go_simp;first|done|(with_reducible rfl))
   refine' qz0;refine H.tk (i:=6) (v := .pointer (some ⟨w.heap.size,0,none⟩)) ?h6a0 hS ?_
   case h6a0=>exact(fun w hw=>by go_simp)
   refine' qz0;refine H.tk (i:=7) (v := .string c.p0) ?h7a0 hS ?_
   case h7a0=>exact(fun w hw=>by have c:=hw.s.cell 0 (.string c.p0) rfl;go_simp)
   refine' qz0;refine H.tk (i:=9) (v:=?v9a0) ?h9a0 hS ?_
   case h9a0=>(intro w hw;go_simp;first|done|(with_reducible rfl))
   refine' qz0;refine H.tk (i:=10) (v := .int .i64 om) ?h10a0 hS ?_
   case h10a0=>exact(fun w hw=>by have c:=hw.u.cell 3 (.int .i64 om) rfl;go_simp)
   refine' qz0;refine H.tk (i:=11) (v := .int .i64 (8*om)) ?h11a0 hS ?_
   case h11a0=>exact(fun w hw=>by go_simp)
   refine' qzu;refine' qzk;refine(heldQ (P1.out _) hS).mono ?_;refine' qz43;refine' qzbr;refine' qz2i
   refine wpAnyH_ready (rs:=[12]) (by kernel_rfl) (by simp) ?_
   refine' qzk;refine(heldU (P2.out _) hS).mono ?_;rintro e w12 ⟨rfl,hS12⟩
   refine hK.out _ _ hS12 (fun _=>?_)
   clear hK K hS;have hS:=hS12;clear hS12;refine' qz53;refine' qz1;refine' qzb7
   refine wp_region_held_drew (S:=fun X=>SU w X w.heap.size (w.heap.size+1) c v ⟨0,fl,plen,om,iv,seq,met,hav,yb,sa,sl,sc⟩) (by kernel_rfl) hS.drew (fun hS=>?_)
   generalize World.drew _=X1 at *;refine H.tk (i:=0) (v := .string a2) ?h0b0 hS ?_
   case h0b0=>exact(fun w hw=>by go_simp)
   refine' qz0;refine H.tk (i:=1) (v:=?v1b0) ?h1b0 hS ?_
   case h1b0=>(intro w hw;go_simp;first|done|(with_reducible rfl))
   refine' qz0;refine H.tk (i:=2) (v := .string yb) ?h2b0 hS ?_
   case h2b0=>exact(fun w hw=>by have c:=hw.u.cell 8 (.string yb) rfl;go_simp)
   refine' qz0;refine H.tk (i:=3) (v := .string z) ?h3b0 hS ?_
   case h3b0=>exact(fun w hw=>by go_simp)
   refine' qz0;refine H.tk (i:=4) (v:=?v4b0) ?h4b0 hS ?_
   case h4b0=>(intro w hw;go_simp;first|done|(with_reducible rfl))
   refine' qz0;refine H.tk (i:=5) (v := .int .i64 0) ?h5b0 hS ?_
   case h5b0=>exact(fun w hw=>by have c:=hw.u.cell 0 (.int .i64 0) rfl;go_simp)
   refine' qz0;refine H.tk (i:=6) (v := .pointer (some ⟨2,0,none⟩)) ?h6b0 hS ?_
   case h6b0=>exact(fun w hw=>by go_simp)
   refine' qz0;refine H.tk (i:=7) (v := .int .i64 0) ?h7b0 hS ?_
   case h7b0=>exact(fun w hw=>by have c:=hw.tab.z0;go_simp)
   refine' qzu;refine' qzk;refine(heldU (P3.out _) hS).mono ?_;refine' qz43;refine' qzbr;refine' qzce;refine' qz1;refine' qzcn
   refine wp_region_held_drew (S:=fun X=>SU w X w.heap.size (w.heap.size+1) c v ⟨0,fl,plen,om,iv,seq,met,hav,yb,sa,sl,sc⟩) (by kernel_rfl) hS.drew (fun hS=>?_)
   generalize World.drew _=X2 at *;refine' qzbt;refine H.tk (i:=1) (v := .int .i64 0) ?h1c0 hS ?_
   case h1c0=>exact(fun w hw=>by have c:=hw.u.cell 0 (.int .i64 0) rfl;go_simp)
   refine' qz0;refine H.tk (i:=2) (v := .string a3) ?h2c0 hS ?_
   case h2c0=>exact(fun w hw=>by go_simp)
   refine' qz0;refine H.tk (i:=4) (v:=?v4c0) ?h4c0 hS ?_
   case h4c0=>(intro w hw;go_simp;first|done|(with_reducible rfl))
   refine' qz0;refine H.tk (i:=5) (v := .int .i64 plen) ?h5c0 hS ?_
   case h5c0=>exact(fun w hw=>by have c:=hw.u.cell 2 (.int .i64 plen) rfl;go_simp)
   refine' qz2c;refine' qzk;refine(heldQ (P4.out _) hS).mono ?_;refine' qz73;clear hK K hS;have hS:=hS3;refine' qz3m
   refine wpAnyH_ready (rs:=[6]) (by kernel_rfl) (by simp) ?_
   refine' qzk;refine(heldU (P5.out _) hS).mono ?_;rintro e w6 ⟨rfl,hS6⟩
   refine hK.out _ _ hS6 (fun _=>?_)
   clear hK K hS;have hS:=hS6;clear hS6;refine' qz57;refine' qz1;refine' qzj;exact⟨rfl,hS.bel⟩
 · clear h0 h3
   have P1:=Lib.hid (show ∀ V,Calls Tryz.prog 360 #[.int .i64 1,.string c.p1] V fun e w'=>e = .returned (.string a1)∧V=w' from P1.out)
   have P3:=Lib.hid (show ∀ V,Calls Tryz.prog 329 #[.string z,.int .i64 4] V fun e w'=>e = .returned (.string a3)∧Below V.heap.size V w' from P3.out)
   refine' qzi;change Code.wp _ _ _ _ ((w.alloc (.cells (stC c v) 211)).alloc (.cells (Up.cells ⟨1,fl,plen,om,iv,seq,met,hav,yb,sa,sl,sc⟩) 223));generalize (w.alloc (.cells (stC c v) 211)).alloc (.cells (Up.cells ⟨1,fl,plen,om,iv,seq,met,hav,yb,sa,sl,sc⟩) 223)=W at *
   refine wp_region_held_drew (S:=fun X=>SU w X w.heap.size (w.heap.size+1) c v ⟨1,fl,plen,om,iv,seq,met,hav,yb,sa,sl,sc⟩) (by kernel_rfl) HU.out.drew (fun hS=>?_)
   clear HU;generalize W.drew=X0 at *;refine H.tk (i:=0) (v:=?v0a1) ?h0a1 hS ?_
   case h0a1=>(intro w hw;go_simp;first|done|(with_reducible rfl))
   refine' qz0;refine H.tk (i:=1) (v := .int .i64 1) ?h1a1 hS ?_
   case h1a1=>exact(fun w hw=>by have c:=hw.u.cell 0 (.int .i64 1) rfl;go_simp)
   refine' qz0;refine H.tk (i:=2) (v:=?v2a1) ?h2a1 hS ?_
   case h2a1=>(intro w hw;go_simp;first|done|(with_reducible rfl))
   refine' qz0;refine H.tk (i:=3) (v := .int .i64 1) ?h3a1 hS ?_
   case h3a1=>exact(fun w hw=>by have c:=hw.u.cell 0 (.int .i64 1) rfl;go_simp)
   refine' qz0;refine H.tk (i:=4) (v:=?v4a1) ?h4a1 hS ?_
   case h4a1=>(intro w hw;go_simp;first|done|(with_reducible rfl))
   refine' qz0;refine H.tk (i:=5) (v:=?v5a1) ?h5a1 hS ?_
   case h5a1=>(intro w hw;go_simp;first|done|(with_reducible rfl))
   refine' qz0;refine H.tk (i:=6) (v := .pointer (some ⟨w.heap.size,1,none⟩)) ?h6a1 hS ?_
   case h6a1=>exact(fun w hw=>by go_simp)
   refine' qz0;refine H.tk (i:=7) (v := .string c.p1) ?h7a1 hS ?_
   case h7a1=>exact(fun w hw=>by have c:=hw.s.cell 1 (.string c.p1) rfl;go_simp)
   refine' qz0;refine H.tk (i:=9) (v:=?v9a1) ?h9a1 hS ?_
   case h9a1=>(intro w hw;go_simp;first|done|(with_reducible rfl))
   refine' qz0;refine H.tk (i:=10) (v := .int .i64 om) ?h10a1 hS ?_
   case h10a1=>exact(fun w hw=>by have c:=hw.u.cell 3 (.int .i64 om) rfl;go_simp)
   refine' qz0;refine H.tk (i:=11) (v := .int .i64 (8*om)) ?h11a1 hS ?_
   case h11a1=>exact(fun w hw=>by go_simp)
   refine' qzu;refine' qzk;refine(heldQ (P1.out _) hS).mono ?_;refine' qz43;refine' qzbr;refine' qz2i
   refine wpAnyH_ready (rs:=[12]) (by kernel_rfl) (by simp) ?_
   refine' qzk;refine(heldU (P2.out _) hS).mono ?_;rintro e w12 ⟨rfl,hS12⟩
   refine hK.out _ _ hS12 (fun _=>?_)
   clear hK K hS;have hS:=hS12;clear hS12;refine' qz53;refine' qz1;refine' qzb7
   refine wp_region_held_drew (S:=fun X=>SU w X w.heap.size (w.heap.size+1) c v ⟨1,fl,plen,om,iv,seq,met,hav,yb,sa,sl,sc⟩) (by kernel_rfl) hS.drew (fun hS=>?_)
   generalize World.drew _=X1 at *;refine H.tk (i:=0) (v := .string a2) ?h0b1 hS ?_
   case h0b1=>exact(fun w hw=>by go_simp)
   refine' qz0;refine H.tk (i:=1) (v:=?v1b1) ?h1b1 hS ?_
   case h1b1=>(intro w hw;go_simp;first|done|(with_reducible rfl))
   refine' qz0;refine H.tk (i:=2) (v := .string yb) ?h2b1 hS ?_
   case h2b1=>exact(fun w hw=>by have c:=hw.u.cell 8 (.string yb) rfl;go_simp)
   refine' qz0;refine H.tk (i:=3) (v := .string z) ?h3b1 hS ?_
   case h3b1=>exact(fun w hw=>by go_simp)
   refine' qz0;refine H.tk (i:=4) (v:=?v4b1) ?h4b1 hS ?_
   case h4b1=>(intro w hw;go_simp;first|done|(with_reducible rfl))
   refine' qz0;refine H.tk (i:=5) (v := .int .i64 1) ?h5b1 hS ?_
   case h5b1=>exact(fun w hw=>by have c:=hw.u.cell 0 (.int .i64 1) rfl;go_simp)
   refine' qz0;refine H.tk (i:=6) (v := .pointer (some ⟨2,1,none⟩)) ?h6b1 hS ?_
   case h6b1=>exact(fun w hw=>by go_simp)
   refine' qz0;refine H.tk (i:=7) (v := .int .i64 4) ?h7b1 hS ?_
   case h7b1=>exact(fun w hw=>by have c:=hw.tab.z1;go_simp)
   refine' qzu;refine' qzk;refine(heldU (P3.out _) hS).mono ?_;refine' qz43;refine' qzbr;refine' qzce;refine' qz1;refine' qzcn
   refine wp_region_held_drew (S:=fun X=>SU w X w.heap.size (w.heap.size+1) c v ⟨1,fl,plen,om,iv,seq,met,hav,yb,sa,sl,sc⟩) (by kernel_rfl) hS.drew (fun hS=>?_)
   generalize World.drew _=X2 at *;refine' qzbu;refine H.tk (i:=1) (v := .int .i64 1) ?h1c1 hS ?_
   case h1c1=>exact(fun w hw=>by have c:=hw.u.cell 0 (.int .i64 1) rfl;go_simp)
   refine' qz0;refine H.tk (i:=2) (v := .string a3) ?h2c1 hS ?_
   case h2c1=>exact(fun w hw=>by go_simp)
   refine' qz0;refine H.tk (i:=4) (v:=?v4c1) ?h4c1 hS ?_
   case h4c1=>(intro w hw;go_simp;first|done|(with_reducible rfl))
   refine' qz0;refine H.tk (i:=5) (v := .int .i64 plen) ?h5c1 hS ?_
   case h5c1=>exact(fun w hw=>by have c:=hw.u.cell 2 (.int .i64 plen) rfl;go_simp)
   refine' qz2c;refine' qzk;refine(heldQ (P4.out _) hS).mono ?_;refine' qz73;clear hK K hS;have hS:=hS3;refine' qz3m
   refine wpAnyH_ready (rs:=[6]) (by kernel_rfl) (by simp) ?_
   refine' qzk;refine(heldU (P5.out _) hS).mono ?_;rintro e w6 ⟨rfl,hS6⟩
   refine hK.out _ _ hS6 (fun _=>?_)
   clear hK K hS;have hS:=hS6;clear hS6;refine' qz57;refine' qz1;refine' qzj;exact⟨rfl,hS.bel⟩
 · clear h0 h3
   have P1:=Lib.hid (show ∀ V,Calls Tryz.prog 360 #[.int .i64 2,.string c.p2] V fun e w'=>e = .returned (.string a1)∧V=w' from P1.out)
   have P3:=Lib.hid (show ∀ V,Calls Tryz.prog 329 #[.string z,.int .i64 16] V fun e w'=>e = .returned (.string a3)∧Below V.heap.size V w' from P3.out)
   refine' qzi;change Code.wp _ _ _ _ ((w.alloc (.cells (stC c v) 211)).alloc (.cells (Up.cells ⟨2,fl,plen,om,iv,seq,met,hav,yb,sa,sl,sc⟩) 223));generalize (w.alloc (.cells (stC c v) 211)).alloc (.cells (Up.cells ⟨2,fl,plen,om,iv,seq,met,hav,yb,sa,sl,sc⟩) 223)=W at *
   refine wp_region_held_drew (S:=fun X=>SU w X w.heap.size (w.heap.size+1) c v ⟨2,fl,plen,om,iv,seq,met,hav,yb,sa,sl,sc⟩) (by kernel_rfl) HU.out.drew (fun hS=>?_)
   clear HU;generalize W.drew=X0 at *;refine H.tk (i:=0) (v:=?v0a2) ?h0a2 hS ?_
   case h0a2=>(intro w hw;go_simp;first|done|(with_reducible rfl))
   refine' qz0;refine H.tk (i:=1) (v := .int .i64 2) ?h1a2 hS ?_
   case h1a2=>exact(fun w hw=>by have c:=hw.u.cell 0 (.int .i64 2) rfl;go_simp)
   refine' qz0;refine H.tk (i:=2) (v:=?v2a2) ?h2a2 hS ?_
   case h2a2=>(intro w hw;go_simp;first|done|(with_reducible rfl))
   refine' qz0;refine H.tk (i:=3) (v := .int .i64 2) ?h3a2 hS ?_
   case h3a2=>exact(fun w hw=>by have c:=hw.u.cell 0 (.int .i64 2) rfl;go_simp)
   refine' qz0;refine H.tk (i:=4) (v:=?v4a2) ?h4a2 hS ?_
   case h4a2=>(intro w hw;go_simp;first|done|(with_reducible rfl))
   refine' qz0;refine H.tk (i:=5) (v:=?v5a2) ?h5a2 hS ?_
   case h5a2=>(intro w hw;go_simp;first|done|(with_reducible rfl))
   refine' qz0;refine H.tk (i:=6) (v := .pointer (some ⟨w.heap.size,2,none⟩)) ?h6a2 hS ?_
   case h6a2=>exact(fun w hw=>by go_simp)
   refine' qz0;refine H.tk (i:=7) (v := .string c.p2) ?h7a2 hS ?_
   case h7a2=>exact(fun w hw=>by have c:=hw.s.cell 2 (.string c.p2) rfl;go_simp)
   refine' qz0;refine H.tk (i:=9) (v:=?v9a2) ?h9a2 hS ?_
   case h9a2=>(intro w hw;go_simp;first|done|(with_reducible rfl))
   refine' qz0;refine H.tk (i:=10) (v := .int .i64 om) ?h10a2 hS ?_
   case h10a2=>exact(fun w hw=>by have c:=hw.u.cell 3 (.int .i64 om) rfl;go_simp)
   refine' qz0;refine H.tk (i:=11) (v := .int .i64 (8*om)) ?h11a2 hS ?_
   case h11a2=>exact(fun w hw=>by go_simp)
   refine' qzu;refine' qzk;refine(heldQ (P1.out _) hS).mono ?_;refine' qz43;refine' qzbr;refine' qz2i
   refine wpAnyH_ready (rs:=[12]) (by kernel_rfl) (by simp) ?_
   refine' qzk;refine(heldU (P2.out _) hS).mono ?_;rintro e w12 ⟨rfl,hS12⟩
   refine hK.out _ _ hS12 (fun _=>?_)
   clear hK K hS;have hS:=hS12;clear hS12;refine' qz53;refine' qz1;refine' qzb7
   refine wp_region_held_drew (S:=fun X=>SU w X w.heap.size (w.heap.size+1) c v ⟨2,fl,plen,om,iv,seq,met,hav,yb,sa,sl,sc⟩) (by kernel_rfl) hS.drew (fun hS=>?_)
   generalize World.drew _=X1 at *;refine H.tk (i:=0) (v := .string a2) ?h0b2 hS ?_
   case h0b2=>exact(fun w hw=>by go_simp)
   refine' qz0;refine H.tk (i:=1) (v:=?v1b2) ?h1b2 hS ?_
   case h1b2=>(intro w hw;go_simp;first|done|(with_reducible rfl))
   refine' qz0;refine H.tk (i:=2) (v := .string yb) ?h2b2 hS ?_
   case h2b2=>exact(fun w hw=>by have c:=hw.u.cell 8 (.string yb) rfl;go_simp)
   refine' qz0;refine H.tk (i:=3) (v := .string z) ?h3b2 hS ?_
   case h3b2=>exact(fun w hw=>by go_simp)
   refine' qz0;refine H.tk (i:=4) (v:=?v4b2) ?h4b2 hS ?_
   case h4b2=>(intro w hw;go_simp;first|done|(with_reducible rfl))
   refine' qz0;refine H.tk (i:=5) (v := .int .i64 2) ?h5b2 hS ?_
   case h5b2=>exact(fun w hw=>by have c:=hw.u.cell 0 (.int .i64 2) rfl;go_simp)
   refine' qz0;refine H.tk (i:=6) (v := .pointer (some ⟨2,2,none⟩)) ?h6b2 hS ?_
   case h6b2=>exact(fun w hw=>by go_simp)
   refine' qz0;refine H.tk (i:=7) (v := .int .i64 16) ?h7b2 hS ?_
   case h7b2=>exact(fun w hw=>by have c:=hw.tab.z2;go_simp)
   refine' qzu;refine' qzk;refine(heldU (P3.out _) hS).mono ?_;refine' qz43;refine' qzbr;refine' qzce;refine' qz1;refine' qzcn
   refine wp_region_held_drew (S:=fun X=>SU w X w.heap.size (w.heap.size+1) c v ⟨2,fl,plen,om,iv,seq,met,hav,yb,sa,sl,sc⟩) (by kernel_rfl) hS.drew (fun hS=>?_)
   generalize World.drew _=X2 at *;refine' qzbv;refine H.tk (i:=1) (v := .int .i64 2) ?h1c2 hS ?_
   case h1c2=>exact(fun w hw=>by have c:=hw.u.cell 0 (.int .i64 2) rfl;go_simp)
   refine' qz0;refine H.tk (i:=2) (v := .string a3) ?h2c2 hS ?_
   case h2c2=>exact(fun w hw=>by go_simp)
   refine' qz0;refine H.tk (i:=4) (v:=?v4c2) ?h4c2 hS ?_
   case h4c2=>(intro w hw;go_simp;first|done|(with_reducible rfl))
   refine' qz0;refine H.tk (i:=5) (v := .int .i64 plen) ?h5c2 hS ?_
   case h5c2=>exact(fun w hw=>by have c:=hw.u.cell 2 (.int .i64 plen) rfl;go_simp)
   refine' qz2c;refine' qzk;refine(heldQ (P4.out _) hS).mono ?_;refine' qz73;clear hK K hS;have hS:=hS3;refine' qz3m
   refine wpAnyH_ready (rs:=[6]) (by kernel_rfl) (by simp) ?_
   refine' qzk;refine(heldU (P5.out _) hS).mono ?_;rintro e w6 ⟨rfl,hS6⟩
   refine hK.out _ _ hS6 (fun _=>?_)
   clear hK K hS;have hS:=hS6;clear hS6;refine' qz57;refine' qz1;refine' qzj;exact⟨rfl,hS.bel⟩
 · clear h0 h3
   have P1:=Lib.hid (show ∀ V,Calls Tryz.prog 360 #[.int .i64 3,.string c.p3] V fun e w'=>e = .returned (.string a1)∧V=w' from P1.out)
   have P3:=Lib.hid (show ∀ V,Calls Tryz.prog 329 #[.string z,.int .i64 8] V fun e w'=>e = .returned (.string a3)∧Below V.heap.size V w' from P3.out)
   refine' qzi;change Code.wp _ _ _ _ ((w.alloc (.cells (stC c v) 211)).alloc (.cells (Up.cells ⟨3,fl,plen,om,iv,seq,met,hav,yb,sa,sl,sc⟩) 223));generalize (w.alloc (.cells (stC c v) 211)).alloc (.cells (Up.cells ⟨3,fl,plen,om,iv,seq,met,hav,yb,sa,sl,sc⟩) 223)=W at *
   refine wp_region_held_drew (S:=fun X=>SU w X w.heap.size (w.heap.size+1) c v ⟨3,fl,plen,om,iv,seq,met,hav,yb,sa,sl,sc⟩) (by kernel_rfl) HU.out.drew (fun hS=>?_)
   clear HU;generalize W.drew=X0 at *;refine H.tk (i:=0) (v:=?v0a3) ?h0a3 hS ?_
   case h0a3=>(intro w hw;go_simp;first|done|(with_reducible rfl))
   refine' qz0;refine H.tk (i:=1) (v := .int .i64 3) ?h1a3 hS ?_
   case h1a3=>exact(fun w hw=>by have c:=hw.u.cell 0 (.int .i64 3) rfl;go_simp)
   refine' qz0;refine H.tk (i:=2) (v:=?v2a3) ?h2a3 hS ?_
   case h2a3=>(intro w hw;go_simp;first|done|(with_reducible rfl))
   refine' qz0;refine H.tk (i:=3) (v := .int .i64 3) ?h3a3 hS ?_
   case h3a3=>exact(fun w hw=>by have c:=hw.u.cell 0 (.int .i64 3) rfl;go_simp)
   refine' qz0;refine H.tk (i:=4) (v:=?v4a3) ?h4a3 hS ?_
   case h4a3=>(intro w hw;go_simp;first|done|(with_reducible rfl))
   refine' qz0;refine H.tk (i:=5) (v:=?v5a3) ?h5a3 hS ?_
   case h5a3=>(intro w hw;go_simp;first|done|(with_reducible rfl))
   refine' qz0;refine H.tk (i:=6) (v := .pointer (some ⟨w.heap.size,3,none⟩)) ?h6a3 hS ?_
   case h6a3=>exact(fun w hw=>by go_simp)
   refine' qz0;refine H.tk (i:=7) (v := .string c.p3) ?h7a3 hS ?_
   case h7a3=>exact(fun w hw=>by have c:=hw.s.cell 3 (.string c.p3) rfl;go_simp)
   refine' qz0;refine H.tk (i:=9) (v:=?v9a3) ?h9a3 hS ?_
   case h9a3=>(intro w hw;go_simp;first|done|(with_reducible rfl))
   refine' qz0;refine H.tk (i:=10) (v := .int .i64 om) ?h10a3 hS ?_
   case h10a3=>exact(fun w hw=>by have c:=hw.u.cell 3 (.int .i64 om) rfl;go_simp)
   refine' qz0;refine H.tk (i:=11) (v := .int .i64 (8*om)) ?h11a3 hS ?_
   case h11a3=>exact(fun w hw=>by go_simp)
   refine' qzu;refine' qzk;refine(heldQ (P1.out _) hS).mono ?_;refine' qz43;refine' qzbr;refine' qz2i
   refine wpAnyH_ready (rs:=[12]) (by kernel_rfl) (by simp) ?_
   refine' qzk;refine(heldU (P2.out _) hS).mono ?_;rintro e w12 ⟨rfl,hS12⟩
   refine hK.out _ _ hS12 (fun _=>?_)
   clear hK K hS;have hS:=hS12;clear hS12;refine' qz53;refine' qz1;refine' qzb7
   refine wp_region_held_drew (S:=fun X=>SU w X w.heap.size (w.heap.size+1) c v ⟨3,fl,plen,om,iv,seq,met,hav,yb,sa,sl,sc⟩) (by kernel_rfl) hS.drew (fun hS=>?_)
   generalize World.drew _=X1 at *;refine H.tk (i:=0) (v := .string a2) ?h0b3 hS ?_
   case h0b3=>exact(fun w hw=>by go_simp)
   refine' qz0;refine H.tk (i:=1) (v:=?v1b3) ?h1b3 hS ?_
   case h1b3=>(intro w hw;go_simp;first|done|(with_reducible rfl))
   refine' qz0;refine H.tk (i:=2) (v := .string yb) ?h2b3 hS ?_
   case h2b3=>exact(fun w hw=>by have c:=hw.u.cell 8 (.string yb) rfl;go_simp)
   refine' qz0;refine H.tk (i:=3) (v := .string z) ?h3b3 hS ?_
   case h3b3=>exact(fun w hw=>by go_simp)
   refine' qz0;refine H.tk (i:=4) (v:=?v4b3) ?h4b3 hS ?_
   case h4b3=>(intro w hw;go_simp;first|done|(with_reducible rfl))
   refine' qz0;refine H.tk (i:=5) (v := .int .i64 3) ?h5b3 hS ?_
   case h5b3=>exact(fun w hw=>by have c:=hw.u.cell 0 (.int .i64 3) rfl;go_simp)
   refine' qz0;refine H.tk (i:=6) (v := .pointer (some ⟨2,3,none⟩)) ?h6b3 hS ?_
   case h6b3=>exact(fun w hw=>by go_simp)
   refine' qz0;refine H.tk (i:=7) (v := .int .i64 8) ?h7b3 hS ?_
   case h7b3=>exact(fun w hw=>by have c:=hw.tab.z3;go_simp)
   refine' qzu;refine' qzk;refine(heldU (P3.out _) hS).mono ?_;refine' qz43;refine' qzbr;refine' qzce;refine' qz1;refine' qzcn
   refine wp_region_held_drew (S:=fun X=>SU w X w.heap.size (w.heap.size+1) c v ⟨3,fl,plen,om,iv,seq,met,hav,yb,sa,sl,sc⟩) (by kernel_rfl) hS.drew (fun hS=>?_)
   generalize World.drew _=X2 at *;refine' qzbw;refine H.tk (i:=1) (v := .int .i64 3) ?h1c3 hS ?_
   case h1c3=>exact(fun w hw=>by have c:=hw.u.cell 0 (.int .i64 3) rfl;go_simp)
   refine' qz0;refine H.tk (i:=2) (v := .string a3) ?h2c3 hS ?_
   case h2c3=>exact(fun w hw=>by go_simp)
   refine' qz0;refine H.tk (i:=4) (v:=?v4c3) ?h4c3 hS ?_
   case h4c3=>(intro w hw;go_simp;first|done|(with_reducible rfl))
   refine' qz0;refine H.tk (i:=5) (v := .int .i64 plen) ?h5c3 hS ?_
   case h5c3=>exact(fun w hw=>by have c:=hw.u.cell 2 (.int .i64 plen) rfl;go_simp)
   refine' qz2c;refine' qzk;refine(heldQ (P4.out _) hS).mono ?_;refine' qz73;clear hK K hS;have hS:=hS3;refine' qz3m
   refine wpAnyH_ready (rs:=[6]) (by kernel_rfl) (by simp) ?_
   refine' qzk;refine(heldU (P5.out _) hS).mono ?_;rintro e w6 ⟨rfl,hS6⟩
   refine hK.out _ _ hS6 (fun _=>?_)
   clear hK K hS;have hS:=hS6;clear hS6;refine' qz57;refine' qz1;refine' qzj;exact⟨rfl,hS.bel⟩
end K3
end Go.Proofs.YtllhobicfclheaaGreatDoor

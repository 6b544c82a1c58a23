/-
  A part of a proof. No conditions.
-/
import Derived.Test.YtllhobicfclheaaGreatDoorY00
namespace Go.Proofs.YtllhobicfclheaaGreatDoor
open Go.ChangeShapes Go.WideShapes Go.ChangeAt Go.RowKit
set_option linter.unusedVariables false
set_option maxRecDepth 100000
set_option maxHeartbeats 51200000
namespace Ms
abbrev El:=ByteArray×Int
def DRow (w:World)(a:Option Addr)(l:List El):Prop:=
  ∀ i (h:i<l.length),∃ p,a=some p∧p.block<w.heap.size∧w.cell? (p.add (i*2))=some (.string l[i].1)∧w.cell? ((p.add (i*2)).add 1)=some (.int .i64 l[i].2)
def SRow (w:World)(a:Option Addr)(l:List El):Prop:=
  ∀ i (h:i<l.length),∃ p,a=some p∧p.block<w.heap.size∧w.cell? (p.add (i*2))=some (.int .i64 l[i].2)∧w.cell? ((p.add (i*2)).add 1)=some (.string l[i].1)
theorem b0b (p:Addr)(n:Nat):(p.add n).block=p.block:=by unfold Addr.add;split<;>rfl
theorem DRow.below {w w':World}{a:Option Addr}{l:List El}(h:DRow w a l)(hb:Below w.heap.size w w'):DRow w' a l:=by
 intro i hi;refine' qzai
theorem SRow.below {w w':World}{a:Option Addr}{l:List El}(h:SRow w a l)(hb:Below w.heap.size w w'):SRow w' a l:=by
 intro i hi;refine' qzai
theorem DRow.nil (w:World)(a:Option Addr):DRow w a []:=fun i hi=>absurd hi (by simp)
theorem SRow.nil (w:World)(a:Option Addr):SRow w a []:=fun i hi=>absurd hi (by simp)
theorem w0m {α:Type}(x y:List α)(k:Nat)(hx:k<x.length)(hy:k<y.length)(h:x.take k=y.take k)(he:x[k]=y[k]):x.take (k+1)=y.take (k+1):=by
 rw[List.take_succ_eq_append_getElem hx,List.take_succ_eq_append_getElem hy,h,he]
structure M where
  kind:Int
  cmd:Int
  ver:Int
  auth:ByteArray
  family:Int
  ae:Int
  pfx:ByteArray
  plen:Int
  tag:Int
  next:ByteArray
  metric:Int
  id:ByteArray
  seq:Int
  seq2:Int
  interval:Int
  flags:Int
  hops:Int
  nonce:Int
  cost:Int
  addr:ByteArray
  orig:ByteArray
  la:Option Addr
  ll:List El
  lc:Nat
  typ:Int
  data:ByteArray
  sa:Option Addr
  sl:List El
  sc:Nat
namespace M
def list (m:M):Value := .slice m.la m.ll.length m.lc
def subs (m:M):Value := .slice m.sa m.sl.length m.sc
def cells (m:M):Array Value:=#[.int .i64 m.kind,.int .i64 m.cmd,.int .i64 m.ver,.string m.auth,.int .i64 m.family,.int .i64 m.ae,.string m.pfx,.int .i64 m.plen,.int .i64 m.tag,.string m.next,.int .i64 m.metric,.string m.id,.int .i64 m.seq,.int .i64 m.seq2,.int .i64 m.interval,.int .i64 m.flags,.int .i64 m.hops,.int .i64 m.nonce,.int .i64 m.cost,.string m.addr,.string m.orig,m.list,.int .i64 m.typ,.string m.data,m.subs]
def flat (m:M):Array Value:=#[.int .i64 m.kind,.int .i64 m.cmd,.int .i64 m.ver,.string m.auth,.int .i64 m.family,.int .i64 m.ae,.string m.pfx,.int .i64 m.plen,.int .i64 m.tag,.string m.next,.int .i64 m.metric,.string m.id,.int .i64 m.seq,.int .i64 m.seq2,.int .i64 m.interval,.int .i64 m.flags,.int .i64 m.hops,.int .i64 m.nonce,.int .i64 m.cost,.string m.addr,.string m.orig,.int .i64 m.typ,.string m.data]
structure In (m:M)(w:World):Prop where
  d:DRow w m.la m.ll
  s:SRow w m.sa m.sl
  dl:m.ll.length≤1048576
  sl:m.sl.length≤1048576
theorem In.below {m:M}{w w':World}(h:m.In w)(hb:Below w.heap.size w w'):m.In w':=⟨h.d.below hb,h.s.below hb,h.dl,h.sl⟩
def flatE (a b:M):Bool:=a.kind==b.kind&&(a.cmd==b.cmd&&(a.ver==b.ver&&(a.auth.toList==b.auth.toList&&(a.family==b.family&&(a.ae==b.ae&&(a.pfx.toList==b.pfx.toList&&(a.plen==b.plen&&(a.tag==b.tag&&(a.next.toList==b.next.toList&&(a.metric==b.metric&&(a.id.toList==b.id.toList&&(a.seq==b.seq&&(a.seq2==b.seq2&&(a.interval==b.interval&&(a.flags==b.flags&&(a.hops==b.hops&&(a.nonce==b.nonce&&(a.cost==b.cost&&(a.addr.toList==b.addr.toList&&(a.orig.toList==b.orig.toList&&(a.typ==b.typ&&a.data.toList==b.data.toList)))))))))))))))))))))
def same (a b:M):Bool:=flatE a b&&(decide (a.ll=b.ll)&&decide (a.sl=b.sl))
def zero:M:=⟨0,0,0,ByteArray.empty,0,0,ByteArray.empty,0,0,ByteArray.empty,0,ByteArray.empty,0,0,0,0,0,0,0,ByteArray.empty,ByteArray.empty,none,[],0,0,ByteArray.empty,none,[],0⟩
end M
theorem g1m {P:Program}{W:World}{d:Nat}{f:Field}{fs:List Field}{xs ys:Array Value}{k k':IntKind}{a b:Int}{r:Bool}(hn:f.name≠ "_")(ht:P.underlying f.type=some (.int k'))
    (hx:(part f.type xs f.offset).run P W = .ok (.int k a) W) (hy:(part f.type ys f.offset).run P W = .ok (.int k b) W) (h:(Op.eqFields (d+1) xs ys fs).run P W = .ok r W) :
    (Op.eqFields (d+1) xs ys (f::fs)).run P W = .ok (a==b&&r) W:=by
 simp only[Op.eqFields,ne_eq,hn,not_false_eq_true,if_true,Sem.run_bind,hx,hy,Result.andThen_ok,run_equalIn_int W d f.type k k' a b ht,Sem.run_ite,h,Sem.run_pure]
 cases a==b<;>simp
theorem c0u {P:Program}{W:World}{d:Nat}{f:Field}{fs:List Field}{xs ys:Array Value}{a b:ByteArray}{r:Bool}(hn:f.name≠ "_")(ht:P.underlying f.type=some .string)
    (hx:(part f.type xs f.offset).run P W = .ok (.string a) W) (hy:(part f.type ys f.offset).run P W = .ok (.string b) W) (h:(Op.eqFields (d+1) xs ys fs).run P W = .ok r W) :
    (Op.eqFields (d+1) xs ys (f::fs)).run P W = .ok (a.toList==b.toList&&r) W:=by
 simp only[Op.eqFields,ne_eq,hn,not_false_eq_true,if_true,Sem.run_bind,hx,hy,Result.andThen_ok,run_equalIn_string W d f.type a b ht,Sem.run_ite,h,Sem.run_pure]
 cases a.toList==b.toList<;>simp
theorem eqFlat (a b:M)(W:World):(Op.equalIn 10000 146 (.agg a.flat) (.agg b.flat)).run Tryz.prog W = .ok (M.flatE a b) W:=by
 have hf:Tryz.prog.underlying 146=some (.struct (Tryz.prog.fieldsOf 146)):=by kernel_rfl
 have hp:Tryz.prog.stoodInHeld 146=false:=by kernel_rfl
 have he:M.flatE a b=(a.kind==b.kind&&(a.cmd==b.cmd&&(a.ver==b.ver&&(a.auth.toList==b.auth.toList&&(a.family==b.family&&(a.ae==b.ae&&(a.pfx.toList==b.pfx.toList&&(a.plen==b.plen&&(a.tag==b.tag&&(a.next.toList==b.next.toList&&(a.metric==b.metric&&(a.id.toList==b.id.toList&&(a.seq==b.seq&&(a.seq2==b.seq2&&(a.interval==b.interval&&(a.flags==b.flags&&(a.hops==b.hops&&(a.nonce==b.nonce&&(a.cost==b.cost&&(a.addr.toList==b.addr.toList&&(a.orig.toList==b.orig.toList&&(a.typ==b.typ&&(a.data.toList==b.data.toList&&true))))))))))))))))))))))):=by
  unfold M.flatE;rw[Bool.and_true (a.data.toList==b.data.toList)]
 rw[run_equalIn_struct W 9999 146 a.flat b.flat hf hp,he];simp only[Program.fieldsOf,Tryz.underlying146];refine' qz7o;refine' qz3e;refine' qz3d;refine' qz3e;refine' qz3d;refine' qz3e;refine' qz3e;refine' qz7o;refine' qz7o;refine' qz7o;refine' qz3e
 refine c0u (by decide) Tryz.underlying9 rfl rfl ?_
 refine' qz3e;rfl
theorem o0w (a b:M)(W:World):(binOp .eql 146 (.agg a.flat) (.agg b.flat)).run Tryz.prog W = .ok (.bool (M.flatE a b)) W:=by
 rw[run_eql_struct,eqFlat];rfl
theorem g0s (a b:M)(x y:Operand)(W:World):(eqGuard .eql 146 x y (.agg a.flat) (.agg b.flat)).run Tryz.prog W = .ok () W:=run_eqGuard_agg W .eql _ x y a.flat b.flat (by kernel_rfl)
def elE (x y:El):Bool:=decide (x=y)
theorem bytes_beq (a b:ByteArray):(a.toList==b.toList)=decide (a=b):=by
 rw[←beq_toListBytes];by_cases h:a=b
 · subst h;rw[beq_toListBytes];simp
 · have:(a==b)=false:=by
    rw[beq_toListBytes];simp only[ByteArray.toList_eq,beq_eq_false_iff_ne,ne_eq];intro h2;exact h (ByteArray.ext (Array.ext' h2))
   rw[this];simp[h]
theorem p1h (x y:El):elE x y=(x.1.toList==y.1.toList&&(x.2==y.2&&true)):=by
 obtain⟨a,n⟩:=x;obtain⟨b,m⟩:=y;unfold elE;rw[bytes_beq,Bool.and_true]
 by_cases h1:a=b<;>by_cases h2:n=m<;>simp[h1,h2]
theorem h1l (x y:El):elE x y=(x.2==y.2&&(x.1.toList==y.1.toList&&true)):=by
 rw[p1h,Bool.and_true,Bool.and_true,Bool.and_comm]
theorem n0o (x y:El)(W:World):(binOp .neq 48 (.agg #[.string x.1,.int .i64 x.2]) (.agg #[.string y.1,.int .i64 y.2])).run Tryz.prog W = .ok (.bool (!elE x y)) W:=by
 have hf:Tryz.prog.underlying 48=some (.struct (Tryz.prog.fieldsOf 48)):=by kernel_rfl
 have hp:Tryz.prog.stoodInHeld 48=false:=by kernel_rfl
 have hq:(Op.equalIn 10000 48 (.agg #[.string x.1,.int .i64 x.2]) (.agg #[.string y.1,.int .i64 y.2])).run Tryz.prog W = .ok (elE x y) W:=by
  rw[run_equalIn_struct W 9999 48 _ _ hf hp,p1h];simp only[Program.fieldsOf,Tryz.underlying48]
  refine c0u (by decide) Tryz.underlying9 rfl rfl ?_
  refine' qz3d;rfl
 rw[run_neq_struct,hq];rfl
theorem y0p (x y:El)(W:World):(binOp .neq 50 (.agg #[.int .i64 x.2,.string x.1]) (.agg #[.int .i64 y.2,.string y.1])).run Tryz.prog W = .ok (.bool (!elE x y)) W:=by
 have hf:Tryz.prog.underlying 50=some (.struct (Tryz.prog.fieldsOf 50)):=by kernel_rfl
 have hp:Tryz.prog.stoodInHeld 50=false:=by kernel_rfl
 have hq:(Op.equalIn 10000 50 (.agg #[.int .i64 x.2,.string x.1]) (.agg #[.int .i64 y.2,.string y.1])).run Tryz.prog W = .ok (elE x y) W:=by
  rw[run_equalIn_struct W 9999 50 _ _ hf hp,h1l];simp only[Program.fieldsOf,Tryz.underlying50];refine' qz3e;rfl
 rw[run_neq_struct,hq];rfl
theorem r0l (x y:El)(o p:Operand)(W:World):(eqGuard .neq 48 o p (.agg #[.string x.1,.int .i64 x.2]) (.agg #[.string y.1,.int .i64 y.2])).run Tryz.prog W = .ok () W:=run_eqGuard_agg W .neq _ o p _ _ (by kernel_rfl)
theorem g0n (x y:El)(o p:Operand)(W:World):(eqGuard .neq 50 o p (.agg #[.int .i64 x.2,.string x.1]) (.agg #[.int .i64 y.2,.string y.1])).run Tryz.prog W = .ok () W:=run_eqGuard_agg W .neq _ o p _ _ (by kernel_rfl)
theorem indexD (p:Addr)(n c i:Nat)(h:i<n)(W:World):(Instr.indexAt 26 (.slice (some p) n c) (.int .i64 (i:Int))).run Tryz.prog W = .ok (.pointer (some (p.add (i*2)))) W:=by
 have he:Tryz.prog.elem 26=48:=by simp[Program.elem,Tryz.underlying26]
 have hz:(sizeOf 48).run Tryz.prog W = .ok 2 W:=by go_simp
 rw[run_indexAt_slice W 26 p n c .i64 (i:Int) (by rw[he];exact Tryz.underlying26),if_pos (by omega),he,hz]
 rfl
theorem indexS (p:Addr)(n c i:Nat)(h:i<n)(W:World):(Instr.indexAt 27 (.slice (some p) n c) (.int .i64 (i:Int))).run Tryz.prog W = .ok (.pointer (some (p.add (i*2)))) W:=by
 have he:Tryz.prog.elem 27=50:=by simp[Program.elem,Tryz.underlying27]
 have hz:(sizeOf 50).run Tryz.prog W = .ok 2 W:=by go_simp
 rw[run_indexAt_slice W 27 p n c .i64 (i:Int) (by rw[he];exact Tryz.underlying27),if_pos (by omega),he,hz]
 rfl
theorem add_one (p:Addr):p.add 1=⟨p.block,p.off+1,none⟩:=rfl
theorem g0a {a b:Bool}(h:a=b):Ending.returned (.bool a) = .returned (.bool b):=by rw[h]
theorem bcall {w W w1:World}(h:Below w.heap.size w W)(hb:Below W.heap.size W w1):Below w.heap.size w w1:=h.trans (hb.mono h.size)
theorem balloc {w W:World}(h:Below w.heap.size w W)(o:Obj):Below w.heap.size w (W.alloc o):=h.alloc h.size o
end Ms
namespace Eq
open Ms
theorem e1a (a b:Option Addr)(ca cb:Nat)(x y:List El)(w:World)(hx:DRow w a x)(hy:DRow w b y)(lx:x.length≤1048576)(ly:y.length≤1048576) :
    Calls Tryz.prog 75 #[.slice a x.length ca,.slice b y.length cb] w fun e w'=>e = .returned (.bool (decide (x=y)))∧Below w.heap.size w w':=by
 by_cases hl:x.length=y.length
 · refine' qz7k;go_in;go_wp2
   go_loopw [5] (fun i wr=>∃ k:Nat,k≤x.length∧i = .int .i64 k∧Hid (x.take k=y.take k)∧Hid (Below w.heap.size w wr)) (fun i _=>x.length - (intOf i).toNat)
   case atStart=>exact⟨0,Nat.zero_le _,rfl,Lib.hid rfl,Lib.hid (Below.refl _ _)⟩
   case round=>
    obtain⟨k,hk,rfl,HT,HB⟩:=hrel;by_cases hlt:k<x.length
    · have hlt2:k<y.length:=by omega
      obtain⟨p,rfl,_,c0,c1⟩:=(hx.below HB.out) k hlt;obtain⟨q,rfl,_,d0,d1⟩:=(hy.below HB.out) k hlt2;have i0:=indexD p x.length ca k hlt;have i1:=indexD q y.length cb k hlt2;have g0:=n0o x[k] y[k];have g1:=r0l x[k] y[k];have HS:=Lib.hid (w0m x y k hlt hlt2 HT.out)
      have HD:=Lib.hid (show x=y→x[k]=y[k]from fun h=>by simp[h])
      clear HT hx hy;generalize x[k]=u at *;generalize y[k]=v at *;refine' qz3t
    · obtain rfl:k=x.length:=by omega
      have he:x=y:=by
       have h:=HT.out;rwa [List.take_length,HL.out,List.take_length]at h
      have HE:=Lib.hid he;clear he;refine' qzj
      exact⟨g0a (by simpa using HE.out),HB.out⟩
 · refine' qz67
   exact⟨g0a (by simp;intro h;exact hl (by rw[h])),Below.refl _ _⟩
theorem k1f (a b:Option Addr)(ca cb:Nat)(x y:List El)(w:World)(hx:SRow w a x)(hy:SRow w b y)(lx:x.length≤1048576)(ly:y.length≤1048576) :
    Calls Tryz.prog 76 #[.slice a x.length ca,.slice b y.length cb] w fun e w'=>e = .returned (.bool (decide (x=y)))∧Below w.heap.size w w':=by
 by_cases hl:x.length=y.length
 · refine' qz7k;go_in;go_wp2
   go_loopw [5] (fun i wr=>∃ k:Nat,k≤x.length∧i = .int .i64 k∧Hid (x.take k=y.take k)∧Hid (Below w.heap.size w wr)) (fun i _=>x.length - (intOf i).toNat)
   case atStart=>exact⟨0,Nat.zero_le _,rfl,Lib.hid rfl,Lib.hid (Below.refl _ _)⟩
   case round=>
    obtain⟨k,hk,rfl,HT,HB⟩:=hrel;by_cases hlt:k<x.length
    · have hlt2:k<y.length:=by omega
      obtain⟨p,rfl,_,c0,c1⟩:=(hx.below HB.out) k hlt;obtain⟨q,rfl,_,d0,d1⟩:=(hy.below HB.out) k hlt2;have i0:=indexS p x.length ca k hlt;have i1:=indexS q y.length cb k hlt2;have g0:=y0p x[k] y[k];have g1:=g0n x[k] y[k];have HS:=Lib.hid (w0m x y k hlt hlt2 HT.out)
      have HD:=Lib.hid (show x=y→x[k]=y[k]from fun h=>by simp[h])
      clear HT hx hy;generalize x[k]=u at *;generalize y[k]=v at *;refine' qz3t
    · obtain rfl:k=x.length:=by omega
      have he:x=y:=by
       have h:=HT.out;rwa [List.take_length,HL.out,List.take_length]at h
      have HE:=Lib.hid he;clear he;refine' qzj
      exact⟨g0a (by simpa using HE.out),HB.out⟩
 · refine' qz67
   exact⟨g0a (by simp;intro h;exact hl (by rw[h])),Below.refl _ _⟩
theorem q1d (a b:Option Addr)(ca cb:Nat)(x y:List El)(w:World)(hx:DRow w a x)(hy:DRow w b y)(lx:x.length≤1048576)(ly:y.length≤1048576) :
    Calls Tryz.prog 209 #[.slice a x.length ca,.slice b y.length cb] w fun e w'=>e = .returned (.bool (decide (x=y)))∧Below w.heap.size w w':=by
 by_cases hl:x.length=y.length
 · refine' qz7k;go_in;go_wp2
   go_loopw [13] (fun i wr=>∃ k:Nat,k≤x.length∧i = .int .i64 k∧Hid (x.take k=y.take k)∧Hid (Below w.heap.size w wr)) (fun i _=>x.length - (intOf i).toNat)
   case atStart=>exact⟨0,Nat.zero_le _,rfl,Lib.hid rfl,Lib.hid (Below.refl _ _)⟩
   case round=>
    obtain⟨k,hk,rfl,HT,HB⟩:=hrel;by_cases hlt:k<x.length
    · have hlt2:k<y.length:=by omega
      obtain⟨p,rfl,_,c0,c1⟩:=(hx.below HB.out) k hlt;obtain⟨q,rfl,_,d0,d1⟩:=(hy.below HB.out) k hlt2;have i0:=indexD p x.length ca k hlt;have i1:=indexD q y.length cb k hlt2;have g0:=n0o x[k] y[k];have g1:=r0l x[k] y[k];have HS:=Lib.hid (w0m x y k hlt hlt2 HT.out)
      have HD:=Lib.hid (show x=y→x[k]=y[k]from fun h=>by simp[h])
      clear HT hx hy;generalize x[k]=u at *;generalize y[k]=v at *;refine' qz3t
    · obtain rfl:k=x.length:=by omega
      have he:x=y:=by
       have h:=HT.out;rwa [List.take_length,HL.out,List.take_length]at h
      have HE:=Lib.hid he;clear he;refine' qzj
      exact⟨g0a (by simpa using HE.out),HB.out⟩
 · refine' qz67
   exact⟨g0a (by simp;intro h;exact hl (by rw[h])),Below.refl _ _⟩
theorem h1i (a b:Option Addr)(ca cb:Nat)(x y:List El)(w:World)(hx:SRow w a x)(hy:SRow w b y)(lx:x.length≤1048576)(ly:y.length≤1048576) :
    Calls Tryz.prog 210 #[.slice a x.length ca,.slice b y.length cb] w fun e w'=>e = .returned (.bool (decide (x=y)))∧Below w.heap.size w w':=by
 by_cases hl:x.length=y.length
 · refine' qz7k;go_in;go_wp2
   go_loopw [13] (fun i wr=>∃ k:Nat,k≤x.length∧i = .int .i64 k∧Hid (x.take k=y.take k)∧Hid (Below w.heap.size w wr)) (fun i _=>x.length - (intOf i).toNat)
   case atStart=>exact⟨0,Nat.zero_le _,rfl,Lib.hid rfl,Lib.hid (Below.refl _ _)⟩
   case round=>
    obtain⟨k,hk,rfl,HT,HB⟩:=hrel;by_cases hlt:k<x.length
    · have hlt2:k<y.length:=by omega
      obtain⟨p,rfl,_,c0,c1⟩:=(hx.below HB.out) k hlt;obtain⟨q,rfl,_,d0,d1⟩:=(hy.below HB.out) k hlt2;have i0:=indexS p x.length ca k hlt;have i1:=indexS q y.length cb k hlt2;have g0:=y0p x[k] y[k];have g1:=g0n x[k] y[k];have HS:=Lib.hid (w0m x y k hlt hlt2 HT.out)
      have HD:=Lib.hid (show x=y→x[k]=y[k]from fun h=>by simp[h])
      clear HT hx hy;generalize x[k]=u at *;generalize y[k]=v at *;refine' qz3t
    · obtain rfl:k=x.length:=by omega
      have he:x=y:=by
       have h:=HT.out;rwa [List.take_length,HL.out,List.take_length]at h
      have HE:=Lib.hid he;clear he;refine' qzj
      exact⟨g0a (by simpa using HE.out),HB.out⟩
 · refine' qz67
   exact⟨g0a (by simp;intro h;exact hl (by rw[h])),Below.refl _ _⟩
end Eq
namespace Box
open Ms
theorem below_setRow {B:Nat}{a w:World}(h:Below B a w){g:Nat}(hg:B≤g)(cs:Array Value):Below B a (w.setRow g cs):=
  h.trans ⟨rfl,rfl,rfl,by simp,fun k hk=>setRow_other w g k cs (by omega)⟩
theorem n0j {P:Program}{ops:Array Oper}{rest:List Oper}{o:Oper}{a:Act}{w:World}{Q:Exit→Act→World→Prop}(hg:o.guard=none)(t:TypeId)(parts:Array (Nat×Operand))(ho:o.op = .build t parts)
    (cells:Array Value) (hc:P.built t (parts.map fun(i,x)=>(i,a.eval x)).toList=some cells)
    (h:wpList P ops Q rest (a.put o.dst (.agg cells)) w):wpList P ops Q (o::rest) a w:=
  wpList_build hg t parts ho (by rw[hc];rfl) (by rw[hc];exact h)
def Bx (w:World)(b:Nat)(m:M):Prop:=w.heap[b]?=some (.cells m.cells 29 (0,0))
theorem Bx.lt {w:World}{b:Nat}{m:M}(h:Bx w b m):b<w.heap.size:=(Array.getElem?_eq_some_iff.1 h).1
theorem Bx.below {w w':World}{b:Nat}{m:M}(h:Bx w b m)(hb:Below w.heap.size w w'):Bx w' b m:=(hb.block b h.lt).trans h
theorem Bx.new (w:World)(m:M):Bx (w.alloc (.cells m.cells 29)) w.heap.size m:=heap_alloc_new w _
theorem Bx.old {w:World}{b:Nat}{m:M}(h:Bx w b m)(o:Obj):Bx (w.alloc o) b m:=(heap_alloc_old w o h.lt).trans h
theorem Bx.row {w:World}{g b:Nat}{m:M}(h:Bx w b m)(hn:b≠g)(cs:Array Value):Bx (w.setRow g cs) b m:=(setRow_other w g b cs hn).trans h
theorem Bx.put {w:World}{b:Nat}{m m':M}(h:Bx w b m):Bx (w.setRow b m'.cells) b m':=setRow_heap w b m.cells m'.cells _ _ h
theorem Bx.set {w:World}{b i:Nat}{m m':M}{v:Value}(h:Bx w b m)(hm:m.cells.setIfInBounds i v=m'.cells):Bx (w.setCell ⟨b,i,none⟩ v) b m':=by
 have:=heap_setCell_same w b i m.cells 29 v h;rw[hm]at this;exact this
theorem Bx.off {w:World}{b:Nat}{m:M}(h:Bx w b m){p:Addr}(hn:b≠p.block)(v:Value):Bx (w.setCell p v) b m:=(heap_setCell_other w p b v hn).trans h
theorem Bx.cell {w:World}{b:Nat}{m:M}(h:Bx w b m)(j:Nat)(v:Value)(hv:m.cells[j]?=some v):w.cell? ⟨b,j,none⟩=some v:=by
 rw[cell_of_row w b j m.cells _ _ h,hv]
theorem Bx.frozen {w:World}{b:Nat}{m:M}(h:Bx w b m)(j:Nat):w.frozen? ⟨b,j,none⟩=false:=frozen_of_row w b j m.cells _ h
structure Cs (w:World)(b:Nat)(m:M):Prop where
  c0:w.cell? ⟨b,0,none⟩=some (.int .i64 m.kind)
  c1:w.cell? ⟨b,1,none⟩=some (.int .i64 m.cmd)
  c2:w.cell? ⟨b,2,none⟩=some (.int .i64 m.ver)
  c3:w.cell? ⟨b,3,none⟩=some (.string m.auth)
  c4:w.cell? ⟨b,4,none⟩=some (.int .i64 m.family)
  c5:w.cell? ⟨b,5,none⟩=some (.int .i64 m.ae)
  c6:w.cell? ⟨b,6,none⟩=some (.string m.pfx)
  c7:w.cell? ⟨b,7,none⟩=some (.int .i64 m.plen)
  c8:w.cell? ⟨b,8,none⟩=some (.int .i64 m.tag)
  c9:w.cell? ⟨b,9,none⟩=some (.string m.next)
  c10:w.cell? ⟨b,10,none⟩=some (.int .i64 m.metric)
  c11:w.cell? ⟨b,11,none⟩=some (.string m.id)
  c12:w.cell? ⟨b,12,none⟩=some (.int .i64 m.seq)
  c13:w.cell? ⟨b,13,none⟩=some (.int .i64 m.seq2)
  c14:w.cell? ⟨b,14,none⟩=some (.int .i64 m.interval)
  c15:w.cell? ⟨b,15,none⟩=some (.int .i64 m.flags)
  c16:w.cell? ⟨b,16,none⟩=some (.int .i64 m.hops)
  c17:w.cell? ⟨b,17,none⟩=some (.int .i64 m.nonce)
  c18:w.cell? ⟨b,18,none⟩=some (.int .i64 m.cost)
  c19:w.cell? ⟨b,19,none⟩=some (.string m.addr)
  c20:w.cell? ⟨b,20,none⟩=some (.string m.orig)
  c21:w.cell? ⟨b,21,none⟩=some (.slice m.la m.ll.length m.lc)
  c22:w.cell? ⟨b,22,none⟩=some (.int .i64 m.typ)
  c23:w.cell? ⟨b,23,none⟩=some (.string m.data)
  c24:w.cell? ⟨b,24,none⟩=some (.slice m.sa m.sl.length m.sc)
theorem Bx.cs {w:World}{b:Nat}{m:M}(h:Bx w b m):Cs w b m:=by
 constructor<;>exact h.cell _ _ rfl
theorem oneM (m:M):(m.cells.all fun x=>x.oneCell')=true:=by simp[M.cells,M.list,M.subs,Value.oneCell']
theorem oneF (m:M):(m.flat.all fun x=>x.oneCell')=true:=by simp[M.flat,Value.oneCell']
theorem infoM:(Tryz.prog.info? 29).map (·.size)=some 25:=by kernel_rfl
theorem infoF:(Tryz.prog.info? 146).map (·.size)=some 23:=by kernel_rfl
theorem j0a {ops:Array Oper}{rest:List Oper}{o:Oper}{a:Act}{w:World}{Q:Exit→Act→World→Prop}(hgd:o.guard=none)(x:Operand)(ho:o.op = .load 29 x)
    {b:Nat} (hx:a.eval x = .pointer (some ⟨b,0,none⟩)) {m:M} (hb:Bx w b m)
    (h:wpList Tryz.prog ops Q rest (a.put o.dst (.agg m.cells)) w):wpList Tryz.prog ops Q (o::rest) a w:=
  wpList_load_row hgd 29 x ho b hx 29 m.cells (0,0) _ hb Tryz.underlying29 rfl infoM h
theorem e0a {ops:Array Oper}{rest:List Oper}{o:Oper}{a:Act}{w:World}{Q:Exit→Act→World→Prop}(hgd:o.guard=none)(x y:Operand)(ho:o.op = .store 29 x y)
    {b:Nat} (hx:a.eval x = .pointer (some ⟨b,0,none⟩)) {m m':M} (hy:a.eval y = .agg m'.cells) (hb:Bx w b m)
    (h:wpList Tryz.prog ops Q rest (a.put o.dst undef) (w.setRow b m'.cells)):wpList Tryz.prog ops Q (o::rest) a w:=
  wpList_store_row hgd 29 x y ho b m'.cells hx hy 29 m.cells hb infoM rfl (oneM m') h
end Box
namespace Same
open Ms Box
theorem b0a (w:World)(o:Obj):(w.alloc o).heap.size=w.heap.size+1:=by show(w.heap.push o).size=_;simp
theorem m0o (m:M)(w:World) :
    Calls Tryz.prog 208 #[.agg m.cells] w fun e w'=>e = .returned (.agg m.flat)∧Below w.heap.size w w':=by
 have hb:=Bx.new w m;have hbel:=balloc (Below.refl _ w) (.cells m.cells 29);have hsz:=b0a w (.cells m.cells 29);refine' qzi;generalize w.alloc (.cells m.cells 29)=W at *;have hz:W.heap.size=w.heap.size+1:=hsz;have h2:=heap_alloc_new W (.cells M.zero.flat 146);rw[hz]at h2;have hb2:=hb.old (.cells M.zero.flat 146);have hbel2:=balloc hbel (.cells M.zero.flat 146);clear hsz hz hb hbel;change Code.wp _ _ _ _ (W.alloc (.cells M.zero.flat 146));generalize W.alloc (.cells M.zero.flat 146)=V at *;clear W;obtain⟨c0,c1,c2,c3,c4,c5,c6,c7,c8,c9,c10,c11,c12,c13,c14,c15,c16,c17,c18,c19,c20,c21,c22,c23,c24⟩:=hb2.cs;have H2:=Lib.hid h2;clear h2 hb2 c21 c24
 go_wp2_with (first|(refine n0j rfl 146 _ rfl m.flat (by kernel_rfl) ?_)|(refine wpList_store_row rfl 146 _ _ rfl (w.heap.size+1) m.flat rfl rfl 146 M.zero.flat H2.out infoF rfl (oneF m) ?_))
 exact bodyPost_ret (v := .agg m.flat) (results_cell_row (p:=2) (ty:=146) rfl _ _ (w.heap.size+1) 146 m.flat (0,0) _ rfl (setRow_heap V (w.heap.size+1) M.zero.flat m.flat 146 _ H2.out) Tryz.underlying146 rfl infoF) rfl ⟨rfl,below_setRow hbel2 (by omega) _⟩
end Same
namespace Hs
open Ms Box
section
variable {P:Program} {ops:Array Oper} {Q:Exit→Act→World→Prop} {md:Region.Mode} {S:World→Prop}
theorem H.skip {i:Nat}{d:Tmp}{fuel:Nat}{listed:Array Bool}{a:Act}{w:World}
    (hd:(ops[i]?).map (fun o=>(o.dst,Region.wanted o (yielded ops a.tmps)))=some (some d,false))
    (hs:Region.noSelect ops=true) (hf:Region.free md ops listed i=true) (hr:(Region.ready md ops listed).contains i=true)
    (hQ:∀ c a w,Q (.panic c) (a.put (some d) undef) w→Q (.panic c) a w) (hS:S w)
    (h:wpAnyH P md ops Q S fuel (listed.setIfInBounds i true) (a.put (some d) undef) w):wpAnyH P md ops Q S (fuel+1) listed a w:=by
 cases ho:ops[i]? with
 | none=>rw[ho]at hd;cases hd
 | some o=>
  rw[ho]at hd;simp only[Option.map_some,Option.some.injEq,Prod.mk.injEq]at hd;obtain⟨h1,h2⟩:=hd;refine wpAnyH_take (v:=undef) ho hs hf hr ?_ (.inr ⟨h2,rfl⟩) hS ?_
  · rw[h1];exact hQ
  · rw[h1];exact h
theorem H.take {i:Nat}{o:Oper}{d:Tmp}{v:Value}{fuel:Nat}{listed:Array Bool}{a:Act}{w:World}
    (ho:ops[i]?=some o) (hw:Region.wanted o (yielded ops a.tmps)=true) (hd:o.dst=some d)
    (hs:Region.noSelect ops=true) (hf:Region.free md ops listed i=true) (hr:(Region.ready md ops listed).contains i=true)
    (hQ:∀ c a w,Q (.panic c) (a.put (some d) v) w→Q (.panic c) a w)
    (hy:∀ w,S w→(execOp a.eval o).run P w = .ok (.value v) w) (hS:S w)
    (h:wpAnyH P md ops Q S fuel (listed.setIfInBounds i true) (a.put (some d) v) w):wpAnyH P md ops Q S (fuel+1) listed a w:=by
 refine wpAnyH_take (v:=v) ho hs hf hr ?_ (.inl ⟨hw,hy⟩) hS ?_
 · rw[hd];exact hQ
 · rw[hd];exact h
theorem H.tk {i:Nat}{o:Oper}{d:Tmp}{v:Value}{fuel:Nat}{listed:Array Bool}{a:Act}{w:World}
    (hy:∀ w,S w→(execOp a.eval o).run P w = .ok (.value v) w) (hS:S w)
    (h:wpAnyH P md ops Q S fuel (listed.setIfInBounds i true) (a.put (some d) v) w)
    (ho:ops[i]?=some o:=by simp only[List.getElem?_toArray,List.getElem?_cons_succ,List.getElem?_cons_zero];rfl)
    (hw:Region.wanted o (yielded ops a.tmps)=true:=by kernel_rfl) (hd:o.dst=some d:=by rfl)
    (hs:Region.noSelect ops=true:=by kernel_rfl) (hf:Region.free md ops listed i=true:=by kernel_rfl) (hr:(Region.ready md ops listed).contains i=true:=by kernel_rfl)
    (hQ:∀ c a w,Q (.panic c) (a.put (some d) v) w→Q (.panic c) a w:=by exact fun _ _ _ h=>h):wpAnyH P md ops Q S (fuel+1) listed a w:=
  H.take ho hw hd hs hf hr hQ hy hS h
theorem H.sk {i:Nat}{d:Tmp}{fuel:Nat}{listed:Array Bool}{a:Act}{w:World}(hS:S w)
    (h:wpAnyH P md ops Q S fuel (listed.setIfInBounds i true) (a.put (some d) undef) w)
    (hd:(ops[i]?).map (fun o=>(o.dst,Region.wanted o (yielded ops a.tmps)))=some (some d,false):=by kernel_rfl)
    (hs:Region.noSelect ops=true:=by kernel_rfl) (hf:Region.free md ops listed i=true:=by kernel_rfl) (hr:(Region.ready md ops listed).contains i=true:=by kernel_rfl)
    (hQ:∀ c a w,Q (.panic c) (a.put (some d) undef) w→Q (.panic c) a w:=by exact fun _ _ _ h=>h):wpAnyH P md ops Q S (fuel+1) listed a w:=
  H.skip hd hs hf hr hQ hS h
end
theorem a0b {o:Oper}{ρ:Operand→Value}{x:Operand}{b:Nat}{m:M}{w:World}(ho:o.op = .load 29 x)(hx:ρ x = .pointer (some ⟨b,0,none⟩))(hb:Bx w b m) :
    (execOp ρ o).run Tryz.prog w = .ok (.value (.agg m.cells)) w:=by
 unfold execOp;simp only[ho,hx,Instr.loadAt,Instr.sureAddr,Sem.run_bind,Sem.run_pure,Result.andThen_ok,run_loadVar_row w b 29 29 m.cells (0,0) _ hb Tryz.underlying29 rfl infoM]
theorem n1c {o:Oper}{ρ:Operand→Value}{x y:Operand}{a b:M}{w:World}{r:Bool}(ho:o.op = .binOp .eql 146 x y 146)(hx:ρ x = .agg a.flat)(hy:ρ y = .agg b.flat)(hr:M.flatE a b=r) :
    (execOp ρ o).run Tryz.prog w = .ok (.value (.bool r)) w:=by
 unfold execOp;subst hr;simp only[ho,hx,hy,Sem.run_bind,g0s,Result.andThen_ok,o0w,Sem.run_pure]
theorem heldP {P:Program}{f:Nat}{args:Array Value}{W:World}{v:Ending}(S:World→Prop)(hm:∀ W w1,S W→Below W.heap.size W w1→S w1)
    (h:Calls P f args W fun e w'=>e=v∧Below W.heap.size W w') (hS:S W):Calls P f args W fun e w'=>e=v∧S w':=
  h.mono fun _ _ ⟨he,hb⟩=>⟨he,hm _ _ hS hb⟩
end Hs
namespace SameP
open Ms Box Go.Proofs.YtllhobicfclheaaGreatDoor.Eq Same Hs
theorem start (w:World)(m m':M):Bx ((w.alloc (.cells m.cells 29)).alloc (.cells m'.cells 29)) w.heap.size m∧Bx ((w.alloc (.cells m.cells 29)).alloc (.cells m'.cells 29)) (w.heap.size+1) m'∧Below w.heap.size w ((w.alloc (.cells m.cells 29)).alloc (.cells m'.cells 29)):=
  ⟨(Bx.new w m).old _,by have:=Bx.new (w.alloc (.cells m.cells 29)) m';rwa [b0a]at this,balloc (balloc (Below.refl _ _) _) _⟩
def S2 (w:World)(a b:M)(W:World):Prop:=Bx W w.heap.size a∧Bx W (w.heap.size+1) b∧a.In W∧b.In W∧Below w.heap.size w W
theorem S2.keep {w:World}{a b:M}(W w1:World)(h:S2 w a b W)(hb:Below W.heap.size W w1):S2 w a b w1:=⟨h.1.below hb,h.2.1.below hb,h.2.2.1.below hb,h.2.2.2.1.below hb,bcall h.2.2.2.2 hb⟩
theorem i1k (a b:M)(w:World)(ha:a.In w)(hb:b.In w) :
    Calls Tryz.prog 144 #[.agg a.cells,.agg b.cells] w fun e w'=>e = .returned (.bool (M.same a b))∧Below w.heap.size w w':=by
 have PA:=Lib.hid (fun W (h:S2 w a b W)=>heldP (S2 w a b) S2.keep (m0o a W) h)
 have PB:=Lib.hid (fun W (h:S2 w a b W)=>heldP (S2 w a b) S2.keep (m0o b W) h)
 have PD:=Lib.hid (fun W (h:S2 w a b W)=>heldP (S2 w a b) S2.keep (q1d a.la b.la a.lc b.lc a.ll b.ll W h.2.2.1.d h.2.2.2.1.d h.2.2.1.dl h.2.2.2.1.dl) h)
 have PS:=Lib.hid (fun W (h:S2 w a b W)=>heldP (S2 w a b) S2.keep (h1i a.sa b.sa a.sc b.sc a.sl b.sl W h.2.2.1.s h.2.2.2.1.s h.2.2.1.sl h.2.2.2.1.sl) h)
 have HE:=Lib.hid (show M.same a b=(M.flatE a b&&(decide (a.ll=b.ll)&&decide (a.sl=b.sl)))from rfl)
 obtain⟨ba,bb,bel⟩:=start w a b;refine' qzbg;generalize decide (a.ll=b.ll)=D at *;generalize decide (a.sl=b.sl)=E at *;refine' qzi;generalize (w.alloc (.cells a.cells 29)).alloc (.cells b.cells 29)=V at *;have hV:S2 w a b V.drew:=S2.keep V _ h0 (Below.refl _ _).drew;clear h0
 refine wp_region_held_drew (S:=S2 w a b) (by kernel_rfl) hV (fun hS=>?_)
 clear hV
 rcases(show M.flatE a b=false∨(M.flatE a b=true∧D=false)∨(M.flatE a b=true∧D=true) by cases M.flatE a b<;>cases D<;>simp)with hF|⟨hF,hD⟩|⟨hF,hD⟩
 · subst_vars;have HF:=Lib.hid hF;refine' qz8y;refine' qz5k;refine' qz80;refine' qzk;refine(PA.out _ hS).mono ?_;rintro e w1 ⟨rfl,hS1⟩
   refine hK.out _ _ hS1 (fun _=>?_)
   clear hK K hS;have hS:=hS1;clear hS1;refine' qz2c;refine' qzk;refine(PB.out _ hS).mono ?_;refine' qz73;clear hK K hS;have hS:=hS3;refine' qz3m;refine H.tk (i:=4) (v := .bool false) ?h4 hS ?_
   case h4=>exact fun w _=>n1c (x := .tmp 6) (y := .tmp 8) rfl rfl rfl HF.out
   refine' qz0
   refine H.tk (i:=5) (v:=(.bool false)) (fun w _=>rfl) hS ?_
   refine' qz0;refine H.sk (i:=6) (d:=11) hS ?_;refine' qz0;refine H.sk (i:=7) (d:=12) hS ?_;refine' qz0;refine H.sk (i:=8) (d:=13) hS ?_;refine' qz0;refine H.sk (i:=9) (d:=14) hS ?_;refine' qz0;refine H.sk (i:=10) (d:=15) hS ?_;refine' qz0
   refine H.tk (i:=11) (v:=(Value.bool false)) (fun w _=>rfl) hS ?_
   refine' qz0
   refine H.tk (i:=12) (v:=(Value.bool false)) (fun w _=>rfl) hS ?_
   refine' qz0;refine H.sk (i:=13) (d:=18) hS ?_;refine' qz0;refine H.sk (i:=14) (d:=19) hS ?_;refine' qz0;refine H.sk (i:=15) (d:=20) hS ?_;refine' qz0;refine H.sk (i:=16) (d:=21) hS ?_;refine' qz0;refine H.sk (i:=17) (d:=22) hS ?_;refine' qz0
   refine H.tk (i:=18) (v:=(Value.bool false)) (fun w _=>rfl) hS ?_
   refine' qz0
   refine H.tk (i:=19) (v:=(Value.bool false)) (fun w _=>rfl) hS ?_
   refine' qz1;refine' qzj
   exact⟨g0a (by rw[HE.out,HF.out];simp),hS.2.2.2.2⟩
 · subst_vars;have HF:=Lib.hid hF;refine' qz8y;refine' qz5k;refine' qz80;refine' qzk;refine(PA.out _ hS).mono ?_;rintro e w1 ⟨rfl,hS1⟩
   refine hK.out _ _ hS1 (fun _=>?_)
   clear hK K hS;have hS:=hS1;clear hS1;refine' qz2c;refine' qzk;refine(PB.out _ hS).mono ?_;refine' qz73;clear hK K hS;have hS:=hS3;refine' qz3m;refine' qzb0
   refine H.tk (i:=5) (v:=(.bool true)) (fun w _=>rfl) hS ?_
   refine' qz1y;refine' qzaq;refine' qz84;refine H.tk (i:=9) (v:=?v9) ?h9 hS ?_
   case h9=>(intro w hw;have c:=(hw.2.1).cs.c21;go_simp;first|done|(with_reducible rfl))
   refine' qz2v;refine' qzk;refine(PD.out _ hS).mono ?_;rintro e w10 ⟨rfl,hS10⟩
   refine hK.out _ _ hS10 (fun _=>?_)
   clear hK K hS;have hS:=hS10;clear hS10;refine' qz0
   refine H.tk (i:=11) (v:=(.bool false)) (fun w _=>rfl) hS ?_
   refine' qz0
   refine H.tk (i:=12) (v:=(.bool false)) (fun w _=>rfl) hS ?_
   refine' qz0;refine H.sk (i:=13) (d:=18) hS ?_;refine' qz0;refine H.sk (i:=14) (d:=19) hS ?_;refine' qz0;refine H.sk (i:=15) (d:=20) hS ?_;refine' qz0;refine H.sk (i:=16) (d:=21) hS ?_;refine' qz0;refine H.sk (i:=17) (d:=22) hS ?_;refine' qz0
   refine H.tk (i:=18) (v:=(Value.bool false)) (fun w _=>rfl) hS ?_
   refine' qz0
   refine H.tk (i:=19) (v:=(Value.bool false)) (fun w _=>rfl) hS ?_
   refine' qz1;refine' qzj
   exact⟨g0a (by rw[HE.out,HF.out];simp),hS.2.2.2.2⟩
 · subst_vars;have HF:=Lib.hid hF;refine' qz8y;refine' qz5k;refine' qz80;refine' qzk;refine(PA.out _ hS).mono ?_;rintro e w1 ⟨rfl,hS1⟩
   refine hK.out _ _ hS1 (fun _=>?_)
   clear hK K hS;have hS:=hS1;clear hS1;refine' qz2c;refine' qzk;refine(PB.out _ hS).mono ?_;refine' qz73;clear hK K hS;have hS:=hS3;refine' qz3m;refine' qzb0
   refine H.tk (i:=5) (v:=(.bool true)) (fun w _=>rfl) hS ?_
   refine' qz1y;refine' qzaq;refine' qz84;refine H.tk (i:=9) (v:=?v9) ?h9 hS ?_
   case h9=>(intro w hw;have c:=(hw.2.1).cs.c21;go_simp;first|done|(with_reducible rfl))
   refine' qz2v;refine' qzk;refine(PD.out _ hS).mono ?_;rintro e w10 ⟨rfl,hS10⟩
   refine hK.out _ _ hS10 (fun _=>?_)
   clear hK K hS;have hS:=hS10;clear hS10;refine' qz0
   refine H.tk (i:=11) (v:=(.bool true)) (fun w _=>rfl) hS ?_
   refine' qz0
   refine H.tk (i:=12) (v:=(.bool true)) (fun w _=>rfl) hS ?_
   refine' qzbx;refine' qz0;refine H.tk (i:=14) (v:=?v14) ?h14 hS ?_
   case h14=>(intro w hw;have c:=(hw.1).cs.c24;go_simp;first|done|(with_reducible rfl))
   refine' qzby;refine' qz0;refine H.tk (i:=16) (v:=?v16) ?h16 hS ?_
   case h16=>(intro w hw;have c:=(hw.2.1).cs.c24;go_simp;first|done|(with_reducible rfl))
   refine' qz0
   refine wpAnyH_ready (rs:=[17]) (by kernel_rfl) (by simp) ?_
   refine' qzk;refine(PS.out _ hS).mono ?_;rintro e w17 ⟨rfl,hS17⟩
   refine hK.out _ _ hS17 (fun _=>?_)
   clear hK K hS;have hS:=hS17;clear hS17;refine' qz0
   refine H.tk (i:=18) (v:=(.bool E)) (fun w _=>rfl) hS ?_
   refine' qz0
   refine H.tk (i:=19) (v:=(.bool E)) (fun w _=>rfl) hS ?_
   refine' qz1;refine' qzj
   exact⟨g0a (by rw[HE.out,HF.out];simp),hS.2.2.2.2⟩
end SameP
end Go.Proofs.YtllhobicfclheaaGreatDoor

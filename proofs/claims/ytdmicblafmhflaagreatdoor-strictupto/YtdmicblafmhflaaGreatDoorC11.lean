/- The rules that the program reads out of axiomkeep's text are axiomkeep's rules. No program here. -/
import Derived.Test.YtdmicblafmhflaaGreatDoorC10
import Derived.Test.YtdmicblafmhflaaGreatDoorC08
import Derived.Test.YtdmicblafmhflaaGreatDoorC09
import Derived.Test.YtdmicblafmhflaaGreatDoorC04
import Derived.Shelf.Unicode.DecodeAny
import Derived.Test.YtdmicblafmhflaaGreatDoorC05
import Derived.Lib.Builder
import Derived.Lib.AppendStr
import Derived.Lib.UnsafeStr
import Derived.Lib.Strings
import Derived.Lib.Walk
import Derived.Lib.BufferWrite
import Derived.Lib.Hide
import Derived.Laws.MakeOwn
import Derived.WalkKit
import Derived.Below
import Derived.Laws.OwnMore
import Derived.Laws.CopyRow
import Derived.OwnWalk
import Derived.Lib.AppendZerosOnto
set_option linter.unusedSimpArgs false
set_option linter.unusedVariables false
set_option maxHeartbeats 4000000
set_option maxRecDepth 100000
namespace Go.Proofs.YtdmicblafmhflaaGreatDoor
namespace En
open Ax (bZ cq iF dG gZ aM a8 bT jW eJ aH gR LY jQ ke yR)
def Ug(r:aM):bN:=⟨(a8 r.head.pred 3,eJ r),(jW r).map fun b=>(a8 b.pred 3,bT b)⟩
def cF(l:List aM):List bN:=(l.take 6).map Ug
theorem AO(a:Ax.dW):∀n,n∈bT a→n<7:=by
 intro n hn
 unfold bT at hn
 split at hn
 · simp at hn;subst hn;exact Ax.ef _ 7 (by decide)
 · simp at hn;rcases hn with rfl | rfl<;>exact Ax.ef _ 7 (by decide)
theorem UE(r:aM):tT (Ug r) where
 head:=⟨Ax.Bq r,by
  intro n hn
  obtain⟨m,hm,rfl⟩:=List.mem_map.1 hn
  have:=AO _ m hm
  split<;>omega⟩
 body:=by
  intro b hb
  obtain⟨a,ha,rfl⟩:=List.mem_map.1 hb
  exact⟨Ax.qA a,AO a⟩
 two:=by simp[Ug,jW];omega
 safe:=by
  intro n hn h3
  obtain⟨m,hm,rfl⟩:=List.mem_map.1 hn
  by_cases h:m<3∧¬m∈Ax.Dp r
  · simp only[h,not_false_eq_true,and_self,if_true]at h3;omega
  · simp only[h,if_false]at h3 ⊢
    have Zu:m∈Ax.Dp r:=by
     by_cases hc:m∈Ax.Dp r
     · exact hc
     · exact absurd ⟨h3,hc⟩ h
    obtain⟨a,ha,XY⟩:=List.mem_flatMap.1 Zu
    exact⟨_,List.mem_map.2 ⟨a,ha,rfl⟩,XY⟩
theorem mi(l:List aM):∀r,r∈cF l→tT r:=by
 intro r hr
 obtain⟨k,_,rfl⟩:=List.mem_map.1 hr
 exact UE k
theorem GK(r:aM):ke (cR (Ug r))=LY r:=by
 simp[ke,yR,cR,iQ,Ug,LY,jQ]
theorem R8(l:List aM):(eR (cF l)).map (fun r=>ke (cR r))=gR l:=by
 have h:∀l:List aM,(l.map Ug).map (fun r=>ke (cR r))=l.map LY:=by
  intro l
  rw[List.map_map]
  exact List.map_congr_left fun r _=>GK r
 show ke (cR b0)::ke (cR b1)::((l.take 6).map Ug).map (fun r=>ke (cR r))=_
 rw[h]
 rfl
theorem KW{a b:Ax.Atom}(h:yR a=yR b)(f:bE)(e:Bind):dd a f e=dd b f e:=by
 simp only[yR,Prod.mk.injEq]at h
 unfold dd
 rw[h.1,h.2]
theorem NL{a b:Ax.Atom}(h:yR a=yR b)(s:ByteArray→ByteArray):dj s a=dj s b:=by
 simp only[yR,Prod.mk.injEq]at h
 unfold dj
 rw[h.1,h.2]
theorem D3:∀(az bs:List Ax.Atom),az.map yR=bs.map yR→∀(fs:List bE) (e:Bind),ff az fs e=ff bs fs e
 | [],[],_,_,_=>rfl
 | [],b::bs,h,_,_=>by simp at h
 | a::az,[],h,_,_=>by simp at h
 | a::az,b::bs,h,fs,e=>by
  simp only[List.map_cons,List.cons.injEq]at h
  cases fs with
  | nil=>rfl
  | cons f fs=>
   unfold ff
   rw[KW h.1]
   cases dd b f e with
   | none=>rfl
   | some e'=>exact D3 az bs h.2 fs e'
theorem MB{r q:Ax.aP}(h:ke r=ke q):cp r=cp q:=by
 simp only[ke,Prod.mk.injEq]at h
 unfold cp
 have hl:=congrArg List.length h.2
 simp only[List.length_map]at hl
 have hi:gM r=gM q:=by
  funext fs
  unfold gM
  rw[D3 _ _ h.2]
  cases ff q.body fs []with
  | none=>rfl
  | some b=>simp only[Option.map_some];rw[NL h.1]
 rw[hl,hi]
theorem Bu:∀(rs qs:List Ax.aP),rs.map ke=qs.map ke→rs.map cp=qs.map cp
 | [],[],_=>rfl
 | [],q::qs,h=>by simp at h
 | r::rs,[],h=>by simp at h
 | r::rs,q::qs,h=>by
  simp only[List.map_cons,List.cons.injEq]at h
  rw[List.map_cons,List.map_cons,MB h.1,Bu rs qs h.2]
theorem qn{l:List aM}{rs:List Ax.aP}(h:rs.map ke=gR l):rs.map cp=sR (cF l):=by
 have:=Bu rs ((eR (cF l)).map cR) (by rw[h,←R8,List.map_map];rfl)
 rw[this,List.map_map]
 rfl
end En
namespace Ax
theorem Lu{P:List ByteArray}{ar:ByteArray→Nat}{R:List ER}(hG:Good P ar R)(Hd:∀x,x∈br R→(qy x).tok)(Gi:∀x,x∈br R→0≤x.1∧x.1≤8){t:ByteArray}(hL:Ri t 0 ((br R).map qy)):
 (split t).map er=br R++[((1,⟨#[]⟩):EI)]:=by
 obtain⟨m,h1,h2⟩:=Ay t _ hL (by intro y hy;obtain⟨x,hx,rfl⟩:=List.mem_map.1 hy;exact Hd x hx) (qM hG)
 have hs:(split t).map (fun t=>It.of (conv t))=(br R++[((1,⟨#[]⟩):EI)]).map qy:=by
  have e:(split t).map (fun t=>It.of (conv t))=((split t).map conv).map It.of:=by rw[List.map_map];rfl
  rw[e,←oT,h1,List.map_append,h2,List.map_append]
  rfl
 have ju:∀(l:List Tok) (E:List EI),Bs l→(∀x,x∈E→0≤x.1∧x.1≤8)→l.map (fun t=>It.of (conv t))=E.map qy→l.map er=E:=by
  intro l
  induction l with
  | nil=>intro E _ _ h;cases E with | nil=>rfl | cons _ _=>simp at h
  | cons a l ih=>
   intro E h1 h2 h
   cases E with
   | nil=>simp at h
   | cons x E=>
    simp only[List.map_cons,List.cons.injEq]at h
    rw[List.map_cons,Jj (h2 x (by simp)) (h1 a (by simp)) h.1,ih E (fun t ht=>h1 t (by simp[ht])) (fun y hy=>h2 y (by simp[hy])) h.2]
 exact ju (split t) _ (uu t) (by
  intro x hx
  rcases List.mem_append.1 hx with hx | hx
  · exact Gi x hx
  · simp at hx;subst hx;exact⟨by decide,by decide⟩) hs
def bI(l:List EI):Nat:=(l.flatMap fun x=>x.2.data.toList).length
theorem Cm(a b:List EI):bI (a++b)=bI a+bI b:=by simp[bI]
theorem qW(x:EI)(b:List EI):bI (x::b)=x.2.size+bI b:=by
 simp only[bI,List.flatMap_cons,List.length_append,Array.length_toList]
 rfl
theorem yH:bI []=0:=rfl
theorem qQ(n:Nat):(bZ n).size≤2:=by unfold bZ;split<;>decide
theorem Sr(n:Nat):(iF n).size≤2:=by unfold iF;split<;>decide
theorem N1(n:Nat):(cq n).size≤3:=by unfold cq;split<;>decide
theorem wW(n:Nat):(tI (dG n)).2.size≤2:=by
 show(dG n).text.size≤2
 unfold dG
 split
 · exact Sr n
 · exact qQ _
theorem yO(b:UInt8):(⟨#[b]⟩:ByteArray).size=1:=rfl
theorem so{p:Nat}{ts:List Nat}(h:gZ p ts):bI (dx (jQ p ts))≤12:=by
 have hp:=N1 p
 have WK:(∃a,ts=[a])∨∃a b,ts=[a,b]:=by
  obtain⟨_,h⟩:=h
  match ts with
  | []=>split at h<;>simp at h
  | [a]=>exact .inl ⟨a,rfl⟩
  | [a,b]=>exact .inr ⟨a,b,rfl⟩
  | _::_::_::_=>split at h<;>simp at h
 rcases WK with⟨a,rfl⟩ | ⟨a,b,rfl⟩
 · have:=wW a
   simp only[dx,jQ,List.map_cons,List.map_nil,de,List.cons_append,List.nil_append,qW,yH,lz,yO]
   omega
 · have:=wW a
   have:=wW b
   simp only[dx,jQ,List.map_cons,List.map_nil,de,List.cons_append,List.nil_append,qW,yH,lz,yO]
   omega
theorem MP{r:ER}(h1:∃p ts,r.1=jQ p ts∧gZ p ts)(h2:∀a,a∈r.2→∃p ts,a=jQ p ts∧gZ p ts)(h3:r.2.length≤2):bI (eZ r)≤60:=by
 obtain⟨h,b⟩:=r
 obtain⟨p,ts,e,hk⟩:=h1
 have hh:=so hk
 simp only at e h2 h3
 rw[←e]at hh
 have two:(⟨#[58,45]⟩:ByteArray).size=2:=rfl
 match b,h2,h3 with
 | [],_,_=>
  simp only[eZ,if_true,Cm,qW,yH,yO]
  omega
 | [a],h2,_=>
  obtain⟨q,us,e2,ml⟩:=h2 a (by simp)
  have h4:=so ml
  rw[←e2]at h4
  have en:([a]:List EA)≠[]:=by simp
  simp only[eZ,if_neg en,dB,Cm,qW,yH,yO,two]
  omega
 | [a,c],h2,_=>
  obtain⟨q,us,e2,ml⟩:=h2 a (by simp)
  have h4:=so ml
  rw[←e2]at h4
  obtain⟨q,us,e3,Gk⟩:=h2 c (by simp)
  have h5:=so Gk
  rw[←e3]at h5
  have en:([a,c]:List EA)≠[]:=by simp
  simp only[eZ,if_neg en,dB,Cm,qW,yH,yO,two,lz]
  omega
theorem Aq:∀R:List ER,(∀r,r∈R→(∃p ts,r.1=jQ p ts∧gZ p ts)∧(∀a,a∈r.2→∃p ts,a=jQ p ts∧gZ p ts)∧r.2.length≤2)→bI (br R)≤60*R.length
 | [],_=>by simp[br,bI]
 | r::R,h=>by
  have h1:=Aq R (fun q hq=>h q (by simp[hq]))
  obtain⟨a,b,c⟩:=h r (by simp)
  have h2:=MP a b c
  have e:br (r::R)=eZ r++br R:=by simp[br]
  rw[e,Cm,List.length_cons]
  omega
theorem kz(l:List aM):(aH l).size≤600:=by
 have h1:=Aq (gR l) (pj l)
 have h2:=(rS l).oo
 have:(aH l).size=bI (br (gR l)):=by
  show Array.size _=_
  simp[bI]
 omega
theorem zY(l:List aM):∃rs j,bM (split (aH l)) (split (aH l)).length 0 []=(some rs,j)∧rs.map ke=gR l∧bW 0 [] rs=none∧du [] (rs.flatMap aP.atoms)=none∧b7 rs=none∧read (aH l)=(aH l,0,0):=by
 have cr:=kz l
 have hL:Ri (aH l) 0 ((br (gR l)).map qy):=by
  refine IQ (aH l) _ 0 (Nat.zero_le _) ?_
  rw[List.drop_zero]
  show _=((br (gR l)).map qy).flatMap fun x=>x.text.data.toList
  rw[List.flatMap_map]
  rfl
 have og:=OD l cr hL
 have hE:=Lu (rS l) (fun x hx=>xt x (qZ l x hx)) (fun x hx=>rC x (qZ l x hx)) hL
 have hlen:∀l:List ER,l.length≤(br l).length:=by
  intro l
  induction l with
  | nil=>simp
  | cons r l ih=>simp[br,eZ]at ih ⊢;omega
 have hT:(gR l).length<(split (aH l)).length:=by
  have:=congrArg List.length hE
  simp only[List.length_map,List.length_append,List.length_singleton]at this
  have:=hlen (gR l)
  omega
 obtain⟨rs,h1,h2⟩:=np (T:=split (aH l)) (gR l) (split (aH l)).length 0 [] ⟨#[]⟩ (fun r hr=>((rS l).fit r hr).1) (by rw[List.drop_zero];exact hE) hT
 rw[List.nil_append]at h1
 have sN:¬600<(aH l).size:=by omega
 have h3:bW 0 [] rs=none:=by
  cases h:bW 0 [] rs with
  | none=>rfl
  | some p=>rw[Gu sN h1 h]at og;simp at og
 have h4:du [] (rs.flatMap aP.atoms)=none:=by
  cases h:du [] (rs.flatMap aP.atoms)with
  | none=>rfl
  | some p=>rw[Gz sN h1 h3 h]at og;simp at og
 have h5:b7 rs=none:=by
  cases h:b7 rs with
  | none=>rfl
  | some p=>rw[Gx sN h1 h3 h4 h]at og;simp at og
 exact⟨rs,_,h1,h2,h3,h4,h5,og⟩
end Ax
/- axiomkeep.instances: what its loops work out. -/
section
open Go.RowKit
def kH(H:Nat→Bool):List Value:=(List.range 36).map fun i=>.bool (H i)
theorem pv(H:Nat→Bool){i:Nat}(h:i<36):(kH H)[i]?=some (.bool (H i)):=by simp[kH,h]
end
/- utf8.DecodeRuneInString as it is laid by the shelf; program.IsName. -/
section
open Go.Shelf Go.RowKit
def Gr:Ren:=⟨fun | 197=>198 | 260=>246 | n=>n,fun | 0=>0 | 3=>3 | 4=>4 | 5=>5 | 9=>9 | 21=>21 | 46=>246 | 105=>334 | 119=>404 | 138=>406 | 139=>407 | n=>n,fun | 3=>2 | 4=>3 | n=>n⟩
theorem Rf:Lays.n197 Tryz.prog Gr where
 mixed:=by kernel_rfl
 f197:=Tryz.func198.trans (congrArg some (by kernel_rfl))
 f260:=Tryz.func246.trans (congrArg some (by kernel_rfl))
 t0:=Tryz.underlying0
 a0:=Tryz.isAgg0
 z0:=Tryz.sizeOf0
 v0:=Tryz.zeroValue0
 t3:=Tryz.underlying3
 a3:=Tryz.isAgg3
 z3:=Tryz.sizeOf3
 v3:=Tryz.zeroValue3
 t4:=Tryz.underlying4
 a4:=Tryz.isAgg4
 z4:=Tryz.sizeOf4
 v4:=Tryz.zeroValue4
 t5:=Tryz.underlying5
 a5:=Tryz.isAgg5
 z5:=Tryz.sizeOf5
 v5:=Tryz.zeroValue5
 t9:=Tryz.underlying9
 a9:=Tryz.isAgg9
 z9:=Tryz.sizeOf9
 v9:=Tryz.zeroValue9
 t21:=Tryz.underlying21
 a21:=Tryz.isAgg21
 z21:=Tryz.sizeOf21
 v21:=Tryz.zeroValue21
 t46:=Tryz.underlying246
 a46:=Tryz.isAgg246
 z46:=Tryz.sizeOf246
 v46:=Tryz.zeroValue246
 t105:=Tryz.underlying334
 a105:=Tryz.isAgg334
 z105:=Tryz.sizeOf334
 v105:=Tryz.zeroValue334
 t119:=Tryz.underlying404
 a119:=Tryz.isAgg404
 z119:=Tryz.sizeOf404
 t138:=Tryz.underlying406
 a138:=Tryz.isAgg406
 z138:=Tryz.sizeOf406
 v138:=Tryz.zeroValue406
 t139:=Tryz.underlying407
 a139:=Tryz.isAgg407
 z139:=Tryz.sizeOf407
 v139:=Tryz.zeroValue407
 g3:=by kernel_rfl
 g4:=by kernel_rfl
abbrev fw(w:World):Prop:=Lib.Utf8Tabs 2 3 w
theorem Ho(s:ByteArray)(w:World)(hT:fw w):
 Calls Tryz.prog 198 #[.string s] w fun e w'=>e=.returned (.tuple #[.int .i32 (Lib.decodeGo s).1,.int .i64 (Lib.decodeGo s).2])∧Below w.heap.size w w':=
 Any.utf8_DecodeRuneInString Rf s w hT
namespace Ax
def cf(s:ByteArray):Bool:=((aD s (Lib.decodeGo s).1).1==2)&&(((aD s (Lib.decodeGo s).1).2:Int)==(s.size:Int))
end Ax
theorem wN(s:ByteArray)(w:World)(hT:fw w)(hs:s.size≤maxLen):
 Calls Tryz.prog 130 #[.string s] w fun e w'=>e=.returned (.bool (Ax.cf s))∧Below w.heap.size w w':=by
 have hd:=Ho s w hT
 have hn:Ax.cf s=(((Ax.aD s (Lib.decodeGo s).1).1==2)&&(((Ax.aD s (Lib.decodeGo s).1).2:Int)==(s.size:Int))):=rfl
 have hc:∀w1,Calls Tryz.prog 178 #[.string s,.int .i32 (Lib.decodeGo s).1] w1 fun e w'=>e=.returned (.tuple #[.int .i64 (Ax.aD s (Lib.decodeGo s).1).1,.int .i64 (Ax.aD s (Lib.decodeGo s).1).2])∧Below w1.heap.size w1 w':=fun w1=>kA s _ w1 hs
 generalize (Lib.decodeGo s).1=R at hd hn hc
 generalize (Lib.decodeGo s).2=K at hd
 generalize Ax.aD s R=FT at hn hc
 obtain⟨a,b⟩:=FT
 simp only at hn hc
 rw[hn]
 clear hn
 cases ha:(a==2)
 · go_enter Tryz.func130,Tryz.ntmps130
   go_wp2_with (first | (go_at_call 198;refine hd.mono ?_;rintro e w1 ⟨rfl,bk⟩) | (go_at_call 178;refine(hc _).mono ?_;rintro e w2 ⟨rfl,cM⟩))
   go_ret
   exact⟨by simp,bk.trans (cM.mono bk.size)⟩
 · go_enter Tryz.func130,Tryz.ntmps130
   go_wp2_with (first | (go_at_call 198;refine hd.mono ?_;rintro e w1 ⟨rfl,bk⟩) | (go_at_call 178;refine(hc _).mono ?_;rintro e w2 ⟨rfl,cM⟩))
   go_ret
   exact⟨by simp,bk.trans (cM.mono bk.size)⟩
end
/- strings.Builder: copyCheck, WriteString, String. -/
section
open Go.RowKit
theorem Tryz.uJ:(Tryz.prog.info? 314).map (·.size)=some 2:=by kernel_rfl
theorem Tryz.Dq:liesAt Tryz.prog Tryz.prog.depth 314 (2/Tryz.prog.cellsOf 314) 0 314 1=true:=by kernel_rfl
theorem Tryz.kX:(Tryz.prog.info? 5).map (fun i=>(i.zero,i.size,i.bytes))=some (some (.int .u8 0),1,1):=by kernel_rfl
theorem Tryz.Ad:Tryz.prog.cellsOf 5=1:=by kernel_rfl
def Q9(B:Nat)(w:World)(b:Nat)(l:List UInt8):Prop:=
 ∃p v,(p=.pointer none∨p=.pointer (some ⟨b,0,none⟩))∧w.heap[b]?=some (.cells #[p,v] 314 (0,0))∧w.ownsRow B 5 1 v l.length (Lib.byteCells l)∧(l=[]→v=.slice none 0 0)
theorem xY(b:Nat)(w:World)(h0:w.cell? ⟨b,0,none⟩=some (.pointer (some ⟨b,0,none⟩))):
 Calls Tryz.prog 229 #[.pointer (some ⟨b,0,none⟩)] w fun e w'=>e=.returned (.tuple #[])∧w'=w:=by
 obtain⟨j,hj,_⟩:=Option.map_eq_some_iff.1 Tryz.uJ
 go_enter Tryz.func229,Tryz.ntmps229
 have kn:=Lib.run_neq_ptr_same (P:=Tryz.prog) w ⟨b,0,none⟩ Tryz.underlying312 hj
 clear hj
 go_wp2_with fail
 go_end0
 exact⟨rfl,rfl⟩
theorem vC(b:Nat)(w:World)(h0:w.cell? ⟨b,0,none⟩=some (.pointer none))(u7:w.shape? b=some (314,2))(SD:w.frozen? ⟨b,0,none⟩=false):
 Calls Tryz.prog 229 #[.pointer (some ⟨b,0,none⟩)] w fun e w'=>e=.returned (.tuple #[])∧w'=w.setCell ⟨b,0,none⟩ (.pointer (some ⟨b,0,none⟩)):=by
 obtain⟨j,hj,PF⟩:=Option.map_eq_some_iff.1 Tryz.uJ
 have k1:=fun w' (hs:w'.shape? b=some (314,2))=>Lib.run_to_unsafe (P:=Tryz.prog) w' ⟨b,0,none⟩ Tryz.underlying312 Tryz.underlying390 hj (by rw[PF];decide) hs (Nat.zero_lt_succ 1)
 have k1':=k1 w u7
 have k2:(callFunc 263 #[.pointer (some ⟨b,0,none⟩)]).run Tryz.prog w=.ok (.value (.pointer (some ⟨b,0,none⟩))) w:=by
  rw[run_callFunc_extern Tryz.func263 (by kernel_rfl) (by kernel_rfl) (by kernel_rfl) (e:=Extern.AbiNoEscape.same) (by kernel_rfl),Lib.run_noEscape]
  rfl
 have k3:=Lib.run_from_unsafe (P:=Tryz.prog) w ⟨b,0,none⟩ Tryz.underlying390 Tryz.underlying312 hj u7 Tryz.Dq
 clear k1 hj
 go_enter Tryz.func229,Tryz.ntmps229
 go_wp2_with fail
 go_end0
 exact⟨rfl,rfl⟩
theorem zk(B b:Nat)(w:World)(v:Value)(p:Value)(hp:p=.pointer none∨p=.pointer (some ⟨b,0,none⟩))(hb:w.heap[b]?=some (.cells #[p,v] 314 (0,0)))(hB:B≤b):
 Calls Tryz.prog 229 #[.pointer (some ⟨b,0,none⟩)] w fun e w'=>e=.returned (.tuple #[])∧w'.heap[b]?=some (.cells #[.pointer (some ⟨b,0,none⟩),v] 314 (0,0))∧Below B w w'∧w.grownBy w' (some b):=by
 rcases hp with rfl | rfl
 · refine(vC b w ?_ ?_ (ae hb 0)).mono ?_
   · rw[ab hb];rfl
   · simp[World.shape?,hb]
   · rintro e w' ⟨rfl,rfl⟩
     exact⟨rfl,by rw[heap_setCell_same hb];rfl,(Below.refl _ _).setCell hB _,grownBy_setCell _ _⟩
 · refine(xY b w ?_).mono ?_
   · rw[ab hb];rfl
   · rintro e w' ⟨rfl,rfl⟩
     exact⟨rfl,hb,Below.refl _ _,ic _ _⟩
theorem byteCells_append(l m:List UInt8):Lib.byteCells (l++m)=Lib.byteCells l++Lib.byteCells m:=by simp[Lib.byteCells]
theorem Lx{s:ByteArray}(h:s.data.toList=[]):s=ByteArray.empty:=by
 rcases s with⟨⟨l⟩⟩
 simp at h
 subst h
 rfl
theorem ym(s:ByteArray):Lib.strCells s=Lib.byteCells s.data.toList:=rfl
theorem vu(B b:Nat)(l:List UInt8)(s:ByteArray)(w:World)(h:Q9 B w b l)(hB:B≤b)(hlen:l.length+s.size≤1000000):
 Calls Tryz.prog 184 #[.pointer (some ⟨b,0,none⟩),.string s] w fun e w'=>e=.returned (.tuple #[.int .i64 s.size,.nilIface])∧Q9 B w' b (l++s.data.toList)∧Below B w w':=by
 obtain⟨p,v,hp,hb,aj,Ig⟩:=h
 have aC:=lt_of_heap hb
 go_enter Tryz.func184,Tryz.ntmps184
 go_wp2_with (go_at_call 229;refine(zk B b _ v p hp hb hB).mono ?_)
 rintro e w1 ⟨rfl,bk,rN,fA⟩
 have bj:w1.ownsRow B 5 1 v l.length (Lib.byteCells l):=cV aj fA (e':=314) (fun k hk=>by cases hk;exact⟨_,_,hb⟩) (by decide)
 have kW:=fA.size
 have c0:=ab bk 0
 have c1:=ab bk 1
 simp only[List.getElem?_toArray,List.getElem?_cons_zero,List.getElem?_cons_succ]at c0 c1
 go_wp2_with (at_builtin;obtain⟨i0,hi,eX,eP,eA⟩:=info_parts Tryz.kX;refine Lib.wpList_append_own_string _ rfl _ _ 63 9 rfl B 5 i0 Tryz.underlying63 Tryz.underlying9 hi eX eP eA _ _ _ rfl bj s rfl (by unfold maxLen;omega) (by omega) (by omega) ?_)
 intro v' w2 aO bx Yx
 have cM:w2.heap[b]?=some (.cells #[.pointer (some ⟨b,0,none⟩),v] 314 (0,0)):=by
  rw[bx.block b (by omega) ?_]
  · exact bk
  · intro e
    obtain⟨cur,fz,hk⟩:=cu bj b e.symm
    rw[bk]at hk
    simp at hk
 have d1:=ab cM 1
 have f1:=ae cM 1
 simp only[List.getElem?_toArray,List.getElem?_cons_zero,List.getElem?_cons_succ]at d1
 obtain⟨ao,cap,rfl⟩:=ah aO
 go_wp2_with fail
 go_ret2
 have fU:Below B w w2:=rN.grown bx (by omega) (fun k hk=>(bj.lt k hk).1)
 refine⟨rfl,⟨_,_,.inr rfl,by rw[heap_setCell_same cM];rfl, ?_, ?_⟩,fU.setCell hB _⟩
 · rw[byteCells_append,←ym,List.length_append]
   refine cV (by simpa using aO) (grownBy_setCell _ _) (e':=314) (fun k hk=>by cases hk;exact⟨_,_,cM⟩) (by decide)
 · intro hl
   obtain⟨rfl,JA⟩:=List.append_eq_nil_iff.1 hl
   exact Yx.2 ⟨Ig rfl,Lx JA⟩
end
/- strings.Clone: the same bytes. -/
section
open Go.RowKit
theorem Ey(s:ByteArray)(w:World)(Yt:s.size≤281474976710656):
 Calls Tryz.prog 176 #[.string s] w fun e w'=>e=.returned (.string s)∧Below w.heap.size w w':=by
 by_cases h0:s.size=0
 · have hs:s=⟨#[]⟩:=by
    apply ByteArray.ext
    exact Array.eq_empty_of_size_eq_zero h0
   subst hs
   go_enter Tryz.func176,Tryz.ntmps176
   go_wp2_with fail
   go_ret
   exact⟨rfl,Below.refl _ _⟩
 · have bK:(((s.size:Nat):Int)==0)=false:=beq_eq_false_iff_ne.2 (by omega)
   obtain⟨i0,hi,eX,eP,eA⟩:=info_parts Tryz.kX
   have YU:(Tryz.prog.info? 5).map (·.size)=some 1:=by rw[hi];simp[eP]
   obtain⟨M,hM⟩:∃M,M=madeCells (Value.int .u8 0).cells (((s.size:Nat):Int).toNat*i0.size):=⟨_,rfl⟩
   have hMs:M.size=s.size:=by rw[hM,size_madeCells,eP];simp
   have Vk:∀W:World,(Instr.makeSlice 63 (.int .i64 (s.size:Int)) (.int .i64 (s.size:Int))).run Tryz.prog W=.ok (.slice (some ⟨W.heap.size,0,none⟩) s.size s.size) (W.alloc (.cells M 5)):=fun W=>by
    have h:=run_make (P:=Tryz.prog) W 63 5 i0 (.int .u8 0) Tryz.underlying63 hi eX .i64 .i64 (s.size:Int) (s.size:Int) (by omega) (by omega) (by rw[eA];omega) (by omega)
    rw[←hM]at h
    simpa using h
   clear hM hi
   have sU:=Lib.run_copy_row_string (P:=Tryz.prog) (w.alloc (.cells M 5)) 63 9 3 5 w.heap.size 0 s.size s.size s M 5 Tryz.underlying63 YU (heap_alloc_new w _) (Nat.le_refl _) (by omega)
   obtain⟨Y,hY⟩:∃Y,Y=(M.toList.take 0++Lib.byteCells s.data.toList++M.toList.drop (0+s.size)).toArray:=⟨_,rfl⟩
   rw[←hY]at sU
   have hYl:Y.toList=Lib.byteCells s.data.toList:=by
    rw[hY,List.toList_toArray,List.take_zero,List.nil_append,List.drop_of_length_le (by rw[Array.length_toList];omega),List.append_nil]
   have hYs:Y.size=s.size:=by rw[←Array.length_toList,hYl,Lib.byteCells_length,←Lib.size_eq]
   have hgY:((w.alloc (.cells M 5)).setRow w.heap.size Y).heap[w.heap.size]?=some (.cells Y 5 (0,0)):=setRow_heap _ _ M _ 5 (0,0) (heap_alloc_new w _)
   have cL:s.data.toList≠[]:=fun e=>h0 (by rw[Lib.size_eq,e];rfl)
   have hUS:=Lib.run_unsafeString_row (P:=Tryz.prog) ((w.alloc (.cells M 5)).setRow w.heap.size Y) 351 3 9 5 Tryz.underlying351 Tryz.Ad w.heap.size Y.size (by unfold World.shape?;rw[hgY]) s.data.toList cL (by rw[←Lib.size_eq];omega) (by rw[←Lib.size_eq];omega)
    (fun j x hx=>Lib.cells_of_row hgY Y.size j _ (by rw[List.take_of_length_le (by rw[Array.length_toList];exact Nat.le_refl _),hYl];simp[Lib.byteCells,hx]))
   rw[←Lib.size_eq]at hUS
   clear hY
   go_enter Tryz.func176,Tryz.ntmps176
   go_wp2_with fail
   go_ret
   have bk:Below w.heap.size w (w.alloc (.cells M 5)):=(Below.refl _ w).alloc (Nat.le_refl _) _
   have cM:Below w.heap.size (w.alloc (.cells M 5)) ((w.alloc (.cells M 5)).setRow w.heap.size Y):=⟨rfl,rfl,rfl,by simp,fun k hk=>setRow_other _ _ _ _ (by omega)⟩
   exact⟨rfl,Lib.below_freeze (bk.trans cM) (p:=⟨w.heap.size,0,none⟩) (Nat.le_refl _) _⟩
theorem gY(s:ByteArray)(w:World)(Yt:s.size≤281474976710656):
 Calls Tryz.prog 102 #[.string s] w fun e w'=>e=.returned (.string s)∧Below w.heap.size w w':=by
 go_enter Tryz.func102,Tryz.ntmps102
 go_wp2_with (go_at_call 176;refine(Ey s _ Yt).mono ?_;rintro e w1 ⟨rfl,bk⟩)
 go_ret
 exact⟨rfl,bk⟩
end
/- Laws of no program: copies and cells of wide elements; worlds that are alike but for some blocks. -/
section
open Go.RowKit
theorem dF(P:Program)(w:World)(dT sT ty elem:TypeId)(g o XA adw:Nat)(a:Addr)(ZC acG:Nat)(cur:Array Value)(t:TypeId)(cs:List Value)(k m:Nat)
 (hu:P.underlying dT=some (.slice elem))(hs:(P.info? elem).map (·.size)=some k)
 (hg:w.heap[g]?=some (.cells cur t (0,0)))(hm:m=Nat.min ZC XA)(hn:cs.length=m*k)
 (VN:∀j v,cs[j]?=some v→w.cell? (a.add j)=some v)(jF:o+cs.length≤cur.size)(h1:∀v∈cs,v.oneCell'=true):
 (Builtin.copy_ #[dT,sT] ty #[.slice (some ⟨g,o,none⟩) XA adw,.slice (some a) ZC acG]).run P w=
   .ok (goInt m) (w.setRow g (cur.toList.take o++cs++cur.toList.drop (o+cs.length)).toArray):=by
 have hl:=run_loadCells_list (P:=P) w a cs VN
 have eo:=run_storeCells_at P g o t cs 0 cur w hg (by simpa using jF) h1
 cases hq:P.info? elem with
 | none=>simp[hq]at hs
 | some i=>
  have hi:i.size=k:=by simpa [hq]using hs
  simp[Builtin.copy_,run_underlying hu,Builtin.lenOf,Builtin.firstCells,sizeOf,typeInfo,hq,hi,←hm,←hn,hl,eo]
structure Kb(S:List Nat)(w w':World):Prop where
 os:w'.os=w.os
 tape:w'.tape=w.tape
 output:w'.output=w.output
 size:w.heap.size≤w'.heap.size
 block:∀k,k<w.heap.size→¬k∈S→w'.heap[k]?=w.heap[k]?
theorem Kb.refl(S:List Nat)(w:World):Kb S w w:=⟨rfl,rfl,rfl,Nat.le_refl _,fun _ _ _=>rfl⟩
theorem Kb.trans{S:List Nat}{w w1 w2:World}(h:Kb S w w1)(k:Kb S w1 w2):Kb S w w2:=
 ⟨k.os.trans h.os,k.tape.trans h.tape,k.output.trans h.output,Nat.le_trans h.size k.size,fun i hi hr=>(k.block i (Nat.lt_of_lt_of_le hi h.size) hr).trans (h.block i hi hr)⟩
theorem Kb.trans'{S S':List Nat}{w w1 w2:World}(h:Kb S w w1)(k:Kb S' w1 w2)(hS:∀i,i∈S'→i<w.heap.size→i∈S):Kb S w w2:=
 ⟨k.os.trans h.os,k.tape.trans h.tape,k.output.trans h.output,Nat.le_trans h.size k.size,fun i hi hr=>(k.block i (Nat.lt_of_lt_of_le hi h.size) (fun e=>hr (hS i e hi))).trans (h.block i hi hr)⟩
theorem Kb.mono{S S':List Nat}{w w':World}(h:Kb S w w')(hS:∀i,i∈S→i<w.heap.size→i∈S'):Kb S' w w':=
 ⟨h.os,h.tape,h.output,h.size,fun i hi hr=>h.block i hi (fun e=>hr (hS i e hi))⟩
theorem Kb.drew{S:List Nat}{w w':World}(h:Kb S w w'):Kb S w w'.drew:=⟨h.os,h.tape,h.output,h.size,h.block⟩
theorem Kb.alloc{S:List Nat}{w w':World}(h:Kb S w w')(o:Obj):Kb S w (w'.alloc o):=
 h.trans ⟨rfl,rfl,rfl,by simp,fun k hk _=>Below.heap_alloc _ _ _ hk⟩
theorem Kb.below{S:List Nat}{w w1 w2:World}(h:Kb S w w1)(k:Below w1.heap.size w1 w2):Kb S w w2:=
 h.trans ⟨k.os,k.tape,k.output,k.size,fun i hi _=>k.block i hi⟩
theorem Kb.bG{w w1:World}(k:Below w.heap.size w w1)(S:List Nat):Kb S w w1:=(Kb.refl S w).below k
theorem Kb.dK{w w1:World}{row:Option Nat}(k:w.grownBy w1 row):Kb row.toList w w1:=
 ⟨k.os,k.tape,k.output,k.size,fun i hi hr=>k.block i hi (fun e=>hr (by rw[←e];simp))⟩
theorem Kb.aK{S:List Nat}{w0 w w':World}{B:Nat}(h:Kb S w w')(h0:Below B w0 w)(hB:B≤w.heap.size)(hS:∀i,i∈S→B≤i):Below B w0 w':=
 h0.trans ⟨h.os,h.tape,h.output,h.size,fun i hi=>h.block i (by omega) (fun e=>by have:=hS i e;omega)⟩
theorem Kb.heap{S:List Nat}{w w':World}(h:Kb S w w'){k:Nat}{o:Obj}(hk:w.heap[k]?=some o)(hS:¬k∈S):w'.heap[k]?=some o:=by
 rw[h.block k (Array.getElem?_eq_some_iff.1 hk).1 hS,hk]
theorem Kb.row{S:List Nat}{w w':World}{base:Nat}{e:TypeId}{size:Nat}{v:Value}{n:Nat}{xs:List Value}(h:Kb S w w')(ho:w.ownsRow base e size v n xs)(hS:∀b,v.ownBlock=some b→¬b∈S):w'.ownsRow base e size v n xs:=by
 refine⟨ho.1, ?_⟩
 rcases ho.2 with h0 | ⟨g,cap,cur,rfl,hb,hg,hr⟩
 · exact .inl h0
 · exact .inr ⟨g,cap,cur,rfl,hb,h.heap hg (hS g rfl),hr⟩
theorem Kb.ie{S:List Nat}{w w':World}{base:Nat}{e:TypeId}{size:Nat}{v:Value}{n:Nat}{xs:List Value}(h:Kb S w w')(ho:w.ownsRow base e size v n xs)(hS:∀b cur fz,b∈S→w.heap[b]?=some (.cells cur e fz)→False):w'.ownsRow base e size v n xs:=by
 refine h.row ho ?_
 intro b hb hc
 rcases ho.2 with⟨rfl,_⟩ | ⟨g,cap,cur,rfl,_,hg,_⟩
 · cases hb
 · simp only[Value.ownBlock,Option.some.injEq]at hb
   subst hb
   exact hS _ _ _ hc hg
theorem bq(w:World)(g:Nat)(cs:Array Value){cur:Array Value}{t:TypeId}{fr:Nat×Nat}(h:w.heap[g]?=some (.cells cur t fr)):(w.setRow g cs).heap[g]?=some (.cells cs t fr):=setRow_heap w g cur cs t fr h
theorem dZ(w:World)(g k:Nat)(cs:Array Value)(h:k≠g):(w.setRow g cs).heap[k]?=w.heap[k]?:=by
 simp only[World.setRow,Array.getElem?_modify]
 rw[if_neg (by omega)]
theorem Kb.setRow(w:World)(g:Nat)(cs:Array Value):Kb [g] w (w.setRow g cs):=
 ⟨rfl,rfl,rfl,by simp[World.setRow],fun k _ hr=>dZ w g k cs (by simpa using hr)⟩
theorem Kb.setCell(w:World)(a:Addr)(v:Value):Kb [a.block] w (w.setCell a v):=
 ⟨rfl,rfl,rfl,by simp[World.setCell],fun k _ hr=>Below.heap_setCell _ _ _ _ (by simpa using hr)⟩
def cn(w:World)(v v':Value):Prop:=∀b,v'.ownBlock=some b→v.ownBlock=some b∨w.heap.size≤b
theorem cn.refl(w:World)(v:Value):cn w v v:=fun _ h=>.inl h
theorem cn.mono{w W:World}{u v:Value}(h:cn W u v)(hs:w.heap.size≤W.heap.size):cn w u v:=by
 intro b hb
 rcases h b hb with e | e
 · exact .inl e
 · exact .inr (Nat.le_trans hs e)
end
end Go.Proofs.YtdmicblafmhflaaGreatDoor

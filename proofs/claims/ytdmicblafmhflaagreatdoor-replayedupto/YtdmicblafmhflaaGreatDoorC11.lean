/- The rules that the program reads out of axiomkeep's text are axiomkeep's rules. No program here. -/
import Derived.Test.YtdmicblafmhflaaGreatDoorC10
import Derived.Test.YtdmicblafmhflaaGreatDoorC08
import Derived.Test.YtdmicblafmhflaaGreatDoorC09
import Derived.Test.YtdmicblafmhflaaGreatDoorC04
import Derived.Shelf.Unicode.DecodeAny
import Derived.Test.YtdmicblafmhflaaGreatDoorC05
import Derived.Lib.Builder
import Derived.Lib.AppendStr
import Derived.Lib.UnsafeStr
import Derived.Lib.Strings
import Derived.Lib.Walk
import Derived.Lib.BufferWrite
import Derived.Lib.Hide
import Derived.Laws.MakeOwn
import Derived.WalkKit
import Derived.Below
import Derived.Laws.OwnMore
import Derived.Laws.CopyRow
import Derived.OwnWalk
import Derived.Lib.AppendZerosOnto
set_option linter.unusedSimpArgs false
set_option linter.unusedVariables false
set_option maxHeartbeats 4000000
set_option maxRecDepth 100000
namespace Go.Proofs.YtdmicblafmhflaaGreatDoor
namespace En
open Ax (cf cu gY dG gM ay bk bW jS eH au gR J6 jH kX Ct)
def VA(r:ay):bO:=⟨(bk r.head.pred 3,eH r),(jS r).map fun b=>(bk b.pred 3,bW b)⟩
def aj(l:List ay):List bO:=(l.take 6).map VA
theorem AU(a:Ax.dV):∀n,n∈bW a→n<7:=by
 intro n hn
 unfold bW at hn
 split at hn
 · simp at hn;subst hn;exact Ax.eB _ 7 (by decide)
 · simp at hn;rcases hn with rfl | rfl<;>exact Ax.eB _ 7 (by decide)
theorem Tu(r:ay):ub (VA r) where
 head:=⟨Ax.As r,by
  intro n hn
  obtain⟨m,hm,rfl⟩:=List.mem_map.1 hn
  have:=AU _ m hm
  split<;>omega⟩
 body:=by
  intro b hb
  obtain⟨a,ha,rfl⟩:=List.mem_map.1 hb
  exact⟨Ax.qo a,AU a⟩
 two:=by simp[VA,jS];omega
 safe:=by
  intro n hn h3
  obtain⟨m,hm,rfl⟩:=List.mem_map.1 hn
  by_cases h:m<3∧¬m∈Ax.EH r
  · simp only[h,not_false_eq_true,and_self,if_true]at h3;omega
  · simp only[h,if_false]at h3 ⊢
    have hm3:m∈Ax.EH r:=by
     by_cases hc:m∈Ax.EH r
     · exact hc
     · exact absurd ⟨h3,hc⟩ h
    obtain⟨a,ha,WL⟩:=List.mem_flatMap.1 hm3
    exact⟨_,List.mem_map.2 ⟨a,ha,rfl⟩,WL⟩
theorem th(l:List ay):∀r,r∈aj l→ub r:=by
 intro r hr
 obtain⟨k,_,rfl⟩:=List.mem_map.1 hr
 exact Tu k
theorem Gm(r:ay):kX (cO (VA r))=J6 r:=by
 simp[kX,Ct,cO,iI,VA,J6,jH]
theorem Qh(l:List ay):(eR (aj l)).map (fun r=>kX (cO r))=gR l:=by
 have h:∀l:List ay,(l.map VA).map (fun r=>kX (cO r))=l.map J6:=by
  intro l
  rw[List.map_map]
  exact List.map_congr_left fun r _=>Gm r
 show kX (cO b0)::kX (cO b1)::((l.take 6).map VA).map (fun r=>kX (cO r))=_
 rw[h]
 rfl
theorem Jx{a b:Ax.Atom}(h:Ct a=Ct b)(f:cl)(e:Bind):dh a f e=dh b f e:=by
 simp only[Ct,Prod.mk.injEq]at h
 unfold dh
 rw[h.1,h.2]
theorem M1{a b:Ax.Atom}(h:Ct a=Ct b)(s:ByteArray→ByteArray):du s a=du s b:=by
 simp only[Ct,Prod.mk.injEq]at h
 unfold du
 rw[h.1,h.2]
theorem C5:∀(az bs:List Ax.Atom),az.map Ct=bs.map Ct→∀(fs:List cl) (e:Bind),gU az fs e=gU bs fs e
 | [],[],_,_,_=>rfl
 | [],b::bs,h,_,_=>by simp at h
 | a::az,[],h,_,_=>by simp at h
 | a::az,b::bs,h,fs,e=>by
  simp only[List.map_cons,List.cons.injEq]at h
  cases fs with
  | nil=>rfl
  | cons f fs=>
   unfold gU
   rw[Jx h.1]
   cases dh b f e with
   | none=>rfl
   | some e'=>exact C5 az bs h.2 fs e'
theorem M6{r q:Ax.br}(h:kX r=kX q):cT r=cT q:=by
 simp only[kX,Prod.mk.injEq]at h
 unfold cT
 have hl:=congrArg List.length h.2
 simp only[List.length_map]at hl
 have hi:gB r=gB q:=by
  funext fs
  unfold gB
  rw[C5 _ _ h.2]
  cases gU q.body fs []with
  | none=>rfl
  | some b=>simp only[Option.map_some];rw[M1 h.1]
 rw[hl,hi]
theorem zO:∀(rs qs:List Ax.br),rs.map kX=qs.map kX→rs.map cT=qs.map cT
 | [],[],_=>rfl
 | [],q::qs,h=>by simp at h
 | r::rs,[],h=>by simp at h
 | r::rs,q::qs,h=>by
  simp only[List.map_cons,List.cons.injEq]at h
  rw[List.map_cons,List.map_cons,M6 h.1,zO rs qs h.2]
theorem GP{l:List ay}{rs:List Ax.br}(h:rs.map kX=gR l):rs.map cT=sR (aj l):=by
 have:=zO rs ((eR (aj l)).map cO) (by rw[h,←Qh,List.map_map];rfl)
 rw[this,List.map_map]
 rfl
end En
namespace Ax
theorem J4{P:List ByteArray}{ar:ByteArray→Nat}{R:List ER}(hG:Good P ar R)(Gd:∀x,x∈bp R→(qn x).tok)(FO:∀x,x∈bp R→0≤x.1∧x.1≤8){t:ByteArray}(hL:QA t 0 ((bp R).map qn)):
 (split t).map er=bp R++[((1,⟨#[]⟩):EI)]:=by
 obtain⟨m,h1,h2⟩:=AX t _ hL (by intro y hy;obtain⟨x,hx,rfl⟩:=List.mem_map.1 hy;exact Gd x hx) (su hG)
 have hs:(split t).map (fun t=>It.of (conv t))=(bp R++[((1,⟨#[]⟩):EI)]).map qn:=by
  have e:(split t).map (fun t=>It.of (conv t))=((split t).map conv).map It.of:=by rw[List.map_map];rfl
  rw[e,←uN,h1,List.map_append,h2,List.map_append]
  rfl
 have qB:∀(l:List Tok) (E:List EI),A5 l→(∀x,x∈E→0≤x.1∧x.1≤8)→l.map (fun t=>It.of (conv t))=E.map qn→l.map er=E:=by
  intro l
  induction l with
  | nil=>intro E _ _ h;cases E with | nil=>rfl | cons _ _=>simp at h
  | cons a l ih=>
   intro E h1 h2 h
   cases E with
   | nil=>simp at h
   | cons x E=>
    simp only[List.map_cons,List.cons.injEq]at h
    rw[List.map_cons,Hj (h2 x (by simp)) (h1 a (by simp)) h.1,ih E (fun t ht=>h1 t (by simp[ht])) (fun y hy=>h2 y (by simp[hy])) h.2]
 exact qB (split t) _ (uz t) (by
  intro x hx
  rcases List.mem_append.1 hx with hx | hx
  · exact FO x hx
  · simp at hx;subst hx;exact⟨by decide,by decide⟩) hs
def bI(l:List EI):Nat:=(l.flatMap fun x=>x.2.data.toList).length
theorem Bb(a b:List EI):bI (a++b)=bI a+bI b:=by simp[bI]
theorem rp(x:EI)(b:List EI):bI (x::b)=x.2.size+bI b:=by
 simp only[bI,List.flatMap_cons,List.length_append,Array.length_toList]
 rfl
theorem xP:bI []=0:=rfl
theorem rE(n:Nat):(cf n).size≤2:=by unfold cf;split<;>decide
theorem RE(n:Nat):(gY n).size≤2:=by unfold gY;split<;>decide
theorem Om(n:Nat):(cu n).size≤3:=by unfold cu;split<;>decide
theorem wa(n:Nat):(tI (dG n)).2.size≤2:=by
 show(dG n).text.size≤2
 unfold dG
 split
 · exact RE n
 · exact rE _
theorem xm(b:UInt8):(⟨#[b]⟩:ByteArray).size=1:=rfl
theorem rK{p:Nat}{ts:List Nat}(h:gM p ts):bI (dv (jH p ts))≤12:=by
 have hp:=Om p
 have hts:(∃a,ts=[a])∨∃a b,ts=[a,b]:=by
  obtain⟨_,h⟩:=h
  match ts with
  | []=>split at h<;>simp at h
  | [a]=>exact .inl ⟨a,rfl⟩
  | [a,b]=>exact .inr ⟨a,b,rfl⟩
  | _::_::_::_=>split at h<;>simp at h
 rcases hts with⟨a,rfl⟩ | ⟨a,b,rfl⟩
 · have:=wa a
   simp only[dv,jH,List.map_cons,List.map_nil,db,List.cons_append,List.nil_append,rp,xP,lI,xm]
   omega
 · have:=wa a
   have:=wa b
   simp only[dv,jH,List.map_cons,List.map_nil,db,List.cons_append,List.nil_append,rp,xP,lI,xm]
   omega
theorem Ov{r:ER}(h1:∃p ts,r.1=jH p ts∧gM p ts)(h2:∀a,a∈r.2→∃p ts,a=jH p ts∧gM p ts)(h3:r.2.length≤2):bI (eZ r)≤60:=by
 obtain⟨h,b⟩:=r
 obtain⟨p,ts,e,hk⟩:=h1
 have hh:=rK hk
 simp only at e h2 h3
 rw[←e]at hh
 have two:(⟨#[58,45]⟩:ByteArray).size=2:=rfl
 match b,h2,h3 with
 | [],_,_=>
  simp only[eZ,if_true,Bb,rp,xP,xm]
  omega
 | [a],h2,_=>
  obtain⟨q,us,e2,lN⟩:=h2 a (by simp)
  have h4:=rK lN
  rw[←e2]at h4
  have en:([a]:List EA)≠[]:=by simp
  simp only[eZ,if_neg en,dy,Bb,rp,xP,xm,two]
  omega
 | [a,c],h2,_=>
  obtain⟨q,us,e2,lN⟩:=h2 a (by simp)
  have h4:=rK lN
  rw[←e2]at h4
  obtain⟨q,us,e3,KS⟩:=h2 c (by simp)
  have h5:=rK KS
  rw[←e3]at h5
  have en:([a,c]:List EA)≠[]:=by simp
  simp only[eZ,if_neg en,dy,Bb,rp,xP,xm,two,lI]
  omega
theorem A6:∀R:List ER,(∀r,r∈R→(∃p ts,r.1=jH p ts∧gM p ts)∧(∀a,a∈r.2→∃p ts,a=jH p ts∧gM p ts)∧r.2.length≤2)→bI (bp R)≤60*R.length
 | [],_=>by simp[bp,bI]
 | r::R,h=>by
  have h1:=A6 R (fun q hq=>h q (by simp[hq]))
  obtain⟨a,b,c⟩:=h r (by simp)
  have h2:=Ov a b c
  have e:bp (r::R)=eZ r++bp R:=by simp[bp]
  rw[e,Bb,List.length_cons]
  omega
theorem jo(l:List ay):(au l).size≤600:=by
 have h1:=A6 (gR l) (oc l)
 have h2:=(qZ l).CZ
 have:(au l).size=bI (bp (gR l)):=by
  show Array.size _=_
  simp[bI]
 omega
theorem K5(l:List ay):∃rs j,bU (split (au l)) (split (au l)).length 0 []=(some rs,j)∧rs.map kX=gR l∧cz 0 [] rs=none∧dE [] (rs.flatMap br.atoms)=none∧b8 rs=none∧read (au l)=(au l,0,0):=by
 have cE:=jo l
 have hL:QA (au l) 0 ((bp (gR l)).map qn):=by
  refine Hq (au l) _ 0 (Nat.zero_le _) ?_
  rw[List.drop_zero]
  show _=((bp (gR l)).map qn).flatMap fun x=>x.text.data.toList
  rw[List.flatMap_map]
  rfl
 have qV:=Nx l cE hL
 have hE:=J4 (qZ l) (fun x hx=>yw x (sj l x hx)) (fun x hx=>rQ x (sj l x hx)) hL
 have hlen:∀l:List ER,l.length≤(bp l).length:=by
  intro l
  induction l with
  | nil=>simp
  | cons r l ih=>simp[bp,eZ]at ih ⊢;omega
 have hT:(gR l).length<(split (au l)).length:=by
  have:=congrArg List.length hE
  simp only[List.length_map,List.length_append,List.length_singleton]at this
  have:=hlen (gR l)
  omega
 obtain⟨rs,h1,h2⟩:=nw (T:=split (au l)) (gR l) (split (au l)).length 0 [] ⟨#[]⟩ (fun r hr=>((qZ l).fit r hr).1) (by rw[List.drop_zero];exact hE) hT
 rw[List.nil_append]at h1
 have Cd:¬600<(au l).size:=by omega
 have h3:cz 0 [] rs=none:=by
  cases h:cz 0 [] rs with
  | none=>rfl
  | some p=>rw[L4 Cd h1 h]at qV;simp at qV
 have h4:dE [] (rs.flatMap br.atoms)=none:=by
  cases h:dE [] (rs.flatMap br.atoms)with
  | none=>rfl
  | some p=>rw[O9 Cd h1 h3 h]at qV;simp at qV
 have h5:b8 rs=none:=by
  cases h:b8 rs with
  | none=>rfl
  | some p=>rw[OB Cd h1 h3 h4 h]at qV;simp at qV
 exact⟨rs,_,h1,h2,h3,h4,h5,qV⟩
end Ax
/- axiomkeep.instances: what its loops work out. -/
section
open Go.RowKit
def ky(H:Nat→Bool):List Value:=(List.range 36).map fun i=>.bool (H i)
theorem oX(H:Nat→Bool){i:Nat}(h:i<36):(ky H)[i]?=some (.bool (H i)):=by simp[ky,h]
end
/- utf8.DecodeRuneInString as it is laid by the shelf; program.IsName. -/
section
open Go.Shelf Go.RowKit
def Fj:Ren:=⟨fun | 197=>198 | 260=>246 | n=>n,fun | 0=>0 | 3=>3 | 4=>4 | 5=>5 | 9=>9 | 21=>21 | 46=>246 | 105=>334 | 119=>404 | 138=>406 | 139=>407 | n=>n,fun | 3=>2 | 4=>3 | n=>n⟩
theorem R7:Lays.n197 Tryz.prog Fj where
 mixed:=by kernel_rfl
 f197:=Tryz.func198.trans (congrArg some (by kernel_rfl))
 f260:=Tryz.func246.trans (congrArg some (by kernel_rfl))
 t0:=Tryz.underlying0
 a0:=Tryz.isAgg0
 z0:=Tryz.sizeOf0
 v0:=Tryz.zeroValue0
 t3:=Tryz.underlying3
 a3:=Tryz.isAgg3
 z3:=Tryz.sizeOf3
 v3:=Tryz.zeroValue3
 t4:=Tryz.underlying4
 a4:=Tryz.isAgg4
 z4:=Tryz.sizeOf4
 v4:=Tryz.zeroValue4
 t5:=Tryz.underlying5
 a5:=Tryz.isAgg5
 z5:=Tryz.sizeOf5
 v5:=Tryz.zeroValue5
 t9:=Tryz.underlying9
 a9:=Tryz.isAgg9
 z9:=Tryz.sizeOf9
 v9:=Tryz.zeroValue9
 t21:=Tryz.underlying21
 a21:=Tryz.isAgg21
 z21:=Tryz.sizeOf21
 v21:=Tryz.zeroValue21
 t46:=Tryz.underlying246
 a46:=Tryz.isAgg246
 z46:=Tryz.sizeOf246
 v46:=Tryz.zeroValue246
 t105:=Tryz.underlying334
 a105:=Tryz.isAgg334
 z105:=Tryz.sizeOf334
 v105:=Tryz.zeroValue334
 t119:=Tryz.underlying404
 a119:=Tryz.isAgg404
 z119:=Tryz.sizeOf404
 t138:=Tryz.underlying406
 a138:=Tryz.isAgg406
 z138:=Tryz.sizeOf406
 v138:=Tryz.zeroValue406
 t139:=Tryz.underlying407
 a139:=Tryz.isAgg407
 z139:=Tryz.sizeOf407
 v139:=Tryz.zeroValue407
 g3:=by kernel_rfl
 g4:=by kernel_rfl
abbrev eW(w:World):Prop:=Lib.Utf8Tabs 2 3 w
theorem Gh(s:ByteArray)(w:World)(hT:eW w):
 Calls Tryz.prog 198 #[.string s] w fun e w'=>e=.returned (.tuple #[.int .i32 (Lib.decodeGo s).1,.int .i64 (Lib.decodeGo s).2])∧Below w.heap.size w w':=
 Any.utf8_DecodeRuneInString R7 s w hT
namespace Ax
def mR(s:ByteArray):Bool:=((aJ s (Lib.decodeGo s).1).1==2)&&(((aJ s (Lib.decodeGo s).1).2:Int)==(s.size:Int))
end Ax
theorem Fq(s:ByteArray)(w:World)(hT:eW w)(hs:s.size≤maxLen):
 Calls Tryz.prog 130 #[.string s] w fun e w'=>e=.returned (.bool (Ax.mR s))∧Below w.heap.size w w':=by
 have hd:=Gh s w hT
 have hn:Ax.mR s=(((Ax.aJ s (Lib.decodeGo s).1).1==2)&&(((Ax.aJ s (Lib.decodeGo s).1).2:Int)==(s.size:Int))):=rfl
 have hc:∀w1,Calls Tryz.prog 178 #[.string s,.int .i32 (Lib.decodeGo s).1] w1 fun e w'=>e=.returned (.tuple #[.int .i64 (Ax.aJ s (Lib.decodeGo s).1).1,.int .i64 (Ax.aJ s (Lib.decodeGo s).1).2])∧Below w1.heap.size w1 w':=fun w1=>kq s _ w1 hs
 generalize (Lib.decodeGo s).1=R at hd hn hc
 generalize (Lib.decodeGo s).2=K at hd
 generalize Ax.aJ s R=FT at hn hc
 obtain⟨a,b⟩:=FT
 simp only at hn hc
 rw[hn]
 clear hn
 cases ha:(a==2)
 · go_enter Tryz.func130,Tryz.ntmps130
   go_wp2_with (first | (go_at_call 198;refine hd.mono ?_;rintro e w1 ⟨rfl,a8⟩) | (go_at_call 178;refine(hc _).mono ?_;rintro e w2 ⟨rfl,cM⟩))
   go_ret
   exact⟨by simp,a8.trans (cM.mono a8.size)⟩
 · go_enter Tryz.func130,Tryz.ntmps130
   go_wp2_with (first | (go_at_call 198;refine hd.mono ?_;rintro e w1 ⟨rfl,a8⟩) | (go_at_call 178;refine(hc _).mono ?_;rintro e w2 ⟨rfl,cM⟩))
   go_ret
   exact⟨by simp,a8.trans (cM.mono a8.size)⟩
end
/- strings.Builder: copyCheck, WriteString, String. -/
section
open Go.RowKit
theorem Tryz.uP:(Tryz.prog.info? 314).map (·.size)=some 2:=by kernel_rfl
theorem Tryz.Er:liesAt Tryz.prog Tryz.prog.depth 314 (2/Tryz.prog.cellsOf 314) 0 314 1=true:=by kernel_rfl
theorem Tryz.kB:(Tryz.prog.info? 5).map (fun i=>(i.zero,i.size,i.bytes))=some (some (.int .u8 0),1,1):=by kernel_rfl
theorem Tryz.A0:Tryz.prog.cellsOf 5=1:=by kernel_rfl
def Q9(B:Nat)(w:World)(b:Nat)(l:List UInt8):Prop:=
 ∃p v,(p=.pointer none∨p=.pointer (some ⟨b,0,none⟩))∧w.heap[b]?=some (.cells #[p,v] 314 (0,0))∧w.ownsRow B 5 1 v l.length (Lib.byteCells l)∧(l=[]→v=.slice none 0 0)
theorem vX(b:Nat)(w:World)(h0:w.cell? ⟨b,0,none⟩=some (.pointer (some ⟨b,0,none⟩))):
 Calls Tryz.prog 229 #[.pointer (some ⟨b,0,none⟩)] w fun e w'=>e=.returned (.tuple #[])∧w'=w:=by
 obtain⟨j,hj,_⟩:=Option.map_eq_some_iff.1 Tryz.uP
 go_enter Tryz.func229,Tryz.ntmps229
 have kn:=Lib.run_neq_ptr_same (P:=Tryz.prog) w ⟨b,0,none⟩ Tryz.underlying312 hj
 clear hj
 go_wp2_with fail
 go_end0
 exact⟨rfl,rfl⟩
theorem vf(b:Nat)(w:World)(h0:w.cell? ⟨b,0,none⟩=some (.pointer none))(tU:w.shape? b=some (314,2))(SD:w.frozen? ⟨b,0,none⟩=false):
 Calls Tryz.prog 229 #[.pointer (some ⟨b,0,none⟩)] w fun e w'=>e=.returned (.tuple #[])∧w'=w.setCell ⟨b,0,none⟩ (.pointer (some ⟨b,0,none⟩)):=by
 obtain⟨j,hj,LM⟩:=Option.map_eq_some_iff.1 Tryz.uP
 have k1:=fun w' (hs:w'.shape? b=some (314,2))=>Lib.run_to_unsafe (P:=Tryz.prog) w' ⟨b,0,none⟩ Tryz.underlying312 Tryz.underlying390 hj (by rw[LM];decide) hs (Nat.zero_lt_succ 1)
 have k1':=k1 w tU
 have k2:(callFunc 263 #[.pointer (some ⟨b,0,none⟩)]).run Tryz.prog w=.ok (.value (.pointer (some ⟨b,0,none⟩))) w:=by
  rw[run_callFunc_extern Tryz.func263 (by kernel_rfl) (by kernel_rfl) (by kernel_rfl) (e:=Extern.AbiNoEscape.same) (by kernel_rfl),Lib.run_noEscape]
  rfl
 have k3:=Lib.run_from_unsafe (P:=Tryz.prog) w ⟨b,0,none⟩ Tryz.underlying390 Tryz.underlying312 hj tU Tryz.Er
 clear k1 hj
 go_enter Tryz.func229,Tryz.ntmps229
 go_wp2_with fail
 go_end0
 exact⟨rfl,rfl⟩
theorem yO(B b:Nat)(w:World)(v:Value)(p:Value)(hp:p=.pointer none∨p=.pointer (some ⟨b,0,none⟩))(hb:w.heap[b]?=some (.cells #[p,v] 314 (0,0)))(hB:B≤b):
 Calls Tryz.prog 229 #[.pointer (some ⟨b,0,none⟩)] w fun e w'=>e=.returned (.tuple #[])∧w'.heap[b]?=some (.cells #[.pointer (some ⟨b,0,none⟩),v] 314 (0,0))∧Below B w w'∧w.grownBy w' (some b):=by
 rcases hp with rfl | rfl
 · refine(vf b w ?_ ?_ (af hb 0)).mono ?_
   · rw[ab hb];rfl
   · simp[World.shape?,hb]
   · rintro e w' ⟨rfl,rfl⟩
     exact⟨rfl,by rw[heap_setCell_same hb];rfl,(Below.refl _ _).setCell hB _,grownBy_setCell _ _⟩
 · refine(vX b w ?_).mono ?_
   · rw[ab hb];rfl
   · rintro e w' ⟨rfl,rfl⟩
     exact⟨rfl,hb,Below.refl _ _,hO _ _⟩
theorem byteCells_append(l m:List UInt8):Lib.byteCells (l++m)=Lib.byteCells l++Lib.byteCells m:=by simp[Lib.byteCells]
theorem JY{s:ByteArray}(h:s.data.toList=[]):s=ByteArray.empty:=by
 rcases s with⟨⟨l⟩⟩
 simp at h
 subst h
 rfl
theorem wu(s:ByteArray):Lib.strCells s=Lib.byteCells s.data.toList:=rfl
theorem vy(B b:Nat)(l:List UInt8)(s:ByteArray)(w:World)(h:Q9 B w b l)(hB:B≤b)(hlen:l.length+s.size≤1000000):
 Calls Tryz.prog 184 #[.pointer (some ⟨b,0,none⟩),.string s] w fun e w'=>e=.returned (.tuple #[.int .i64 s.size,.nilIface])∧Q9 B w' b (l++s.data.toList)∧Below B w w':=by
 obtain⟨p,v,hp,hb,al,Gf⟩:=h
 have aE:=lt_of_heap hb
 go_enter Tryz.func184,Tryz.ntmps184
 go_wp2_with (go_at_call 229;refine(yO B b _ v p hp hb hB).mono ?_)
 rintro e w1 ⟨rfl,a8,se,fy⟩
 have bq:w1.ownsRow B 5 1 v l.length (Lib.byteCells l):=cX al fy (e':=314) (fun k hk=>by cases hk;exact⟨_,_,hb⟩) (by decide)
 have kV:=fy.size
 have c0:=ab a8 0
 have c1:=ab a8 1
 simp only[List.getElem?_toArray,List.getElem?_cons_zero,List.getElem?_cons_succ]at c0 c1
 go_wp2_with (at_builtin;obtain⟨i0,hi,ew,dZ,dX⟩:=info_parts Tryz.kB;refine Lib.wpList_append_own_string _ rfl _ _ 63 9 rfl B 5 i0 Tryz.underlying63 Tryz.underlying9 hi ew dZ dX _ _ _ rfl bq s rfl (by unfold maxLen;omega) (by omega) (by omega) ?_)
 intro v' w2 aR bG Yf
 have cM:w2.heap[b]?=some (.cells #[.pointer (some ⟨b,0,none⟩),v] 314 (0,0)):=by
  rw[bG.block b (by omega) ?_]
  · exact a8
  · intro e
    obtain⟨cur,fz,hk⟩:=bj bq b e.symm
    rw[a8]at hk
    simp at hk
 have d1:=ab cM 1
 have f1:=af cM 1
 simp only[List.getElem?_toArray,List.getElem?_cons_zero,List.getElem?_cons_succ]at d1
 obtain⟨ao,cap,rfl⟩:=ah aR
 go_wp2_with fail
 go_ret2
 have fN:Below B w w2:=se.grown bG (by omega) (fun k hk=>(bq.lt k hk).1)
 refine⟨rfl,⟨_,_,.inr rfl,by rw[heap_setCell_same cM];rfl, ?_, ?_⟩,fN.setCell hB _⟩
 · rw[byteCells_append,←wu,List.length_append]
   refine cX (by simpa using aR) (grownBy_setCell _ _) (e':=314) (fun k hk=>by cases hk;exact⟨_,_,cM⟩) (by decide)
 · intro hl
   obtain⟨rfl,E4⟩:=List.append_eq_nil_iff.1 hl
   exact Yf.2 ⟨Gf rfl,JY E4⟩
end
/- strings.Clone: the same bytes. -/
section
open Go.RowKit
theorem Dz(s:ByteArray)(w:World)(XZ:s.size≤281474976710656):
 Calls Tryz.prog 176 #[.string s] w fun e w'=>e=.returned (.string s)∧Below w.heap.size w w':=by
 by_cases h0:s.size=0
 · have hs:s=⟨#[]⟩:=by
    apply ByteArray.ext
    exact Array.eq_empty_of_size_eq_zero h0
   subst hs
   go_enter Tryz.func176,Tryz.ntmps176
   go_wp2_with fail
   go_ret
   exact⟨rfl,Below.refl _ _⟩
 · have bL:(((s.size:Nat):Int)==0)=false:=beq_eq_false_iff_ne.2 (by omega)
   obtain⟨i0,hi,ew,dZ,dX⟩:=info_parts Tryz.kB
   have Xg:(Tryz.prog.info? 5).map (·.size)=some 1:=by rw[hi];simp[dZ]
   obtain⟨M,hM⟩:∃M,M=madeCells (Value.int .u8 0).cells (((s.size:Nat):Int).toNat*i0.size):=⟨_,rfl⟩
   have hMs:M.size=s.size:=by rw[hM,size_madeCells,dZ];simp
   have U0:∀W:World,(Instr.makeSlice 63 (.int .i64 (s.size:Int)) (.int .i64 (s.size:Int))).run Tryz.prog W=.ok (.slice (some ⟨W.heap.size,0,none⟩) s.size s.size) (W.alloc (.cells M 5)):=fun W=>by
    have h:=run_make (P:=Tryz.prog) W 63 5 i0 (.int .u8 0) Tryz.underlying63 hi ew .i64 .i64 (s.size:Int) (s.size:Int) (by omega) (by omega) (by rw[dX];omega) (by omega)
    rw[←hM]at h
    simpa using h
   clear hM hi
   have tr:=Lib.run_copy_row_string (P:=Tryz.prog) (w.alloc (.cells M 5)) 63 9 3 5 w.heap.size 0 s.size s.size s M 5 Tryz.underlying63 Xg (heap_alloc_new w _) (Nat.le_refl _) (by omega)
   obtain⟨Y,hY⟩:∃Y,Y=(M.toList.take 0++Lib.byteCells s.data.toList++M.toList.drop (0+s.size)).toArray:=⟨_,rfl⟩
   rw[←hY]at tr
   have hYl:Y.toList=Lib.byteCells s.data.toList:=by
    rw[hY,List.toList_toArray,List.take_zero,List.nil_append,List.drop_of_length_le (by rw[Array.length_toList];omega),List.append_nil]
   have hYs:Y.size=s.size:=by rw[←Array.length_toList,hYl,Lib.byteCells_length,←Lib.size_eq]
   have hgY:((w.alloc (.cells M 5)).setRow w.heap.size Y).heap[w.heap.size]?=some (.cells Y 5 (0,0)):=setRow_heap _ _ M _ 5 (0,0) (heap_alloc_new w _)
   have cA:s.data.toList≠[]:=fun e=>h0 (by rw[Lib.size_eq,e];rfl)
   have hUS:=Lib.run_unsafeString_row (P:=Tryz.prog) ((w.alloc (.cells M 5)).setRow w.heap.size Y) 351 3 9 5 Tryz.underlying351 Tryz.A0 w.heap.size Y.size (by unfold World.shape?;rw[hgY]) s.data.toList cA (by rw[←Lib.size_eq];omega) (by rw[←Lib.size_eq];omega)
    (fun j x hx=>Lib.cells_of_row hgY Y.size j _ (by rw[List.take_of_length_le (by rw[Array.length_toList];exact Nat.le_refl _),hYl];simp[Lib.byteCells,hx]))
   rw[←Lib.size_eq]at hUS
   clear hY
   go_enter Tryz.func176,Tryz.ntmps176
   go_wp2_with fail
   go_ret
   have a8:Below w.heap.size w (w.alloc (.cells M 5)):=(Below.refl _ w).alloc (Nat.le_refl _) _
   have cM:Below w.heap.size (w.alloc (.cells M 5)) ((w.alloc (.cells M 5)).setRow w.heap.size Y):=⟨rfl,rfl,rfl,by simp,fun k hk=>setRow_other _ _ _ _ (by omega)⟩
   exact⟨rfl,Lib.below_freeze (a8.trans cM) (p:=⟨w.heap.size,0,none⟩) (Nat.le_refl _) _⟩
theorem iU(s:ByteArray)(w:World)(XZ:s.size≤281474976710656):
 Calls Tryz.prog 102 #[.string s] w fun e w'=>e=.returned (.string s)∧Below w.heap.size w w':=by
 go_enter Tryz.func102,Tryz.ntmps102
 go_wp2_with (go_at_call 176;refine(Dz s _ XZ).mono ?_;rintro e w1 ⟨rfl,a8⟩)
 go_ret
 exact⟨rfl,a8⟩
end
/- Laws of no program: copies and cells of wide elements; worlds that are alike but for some blocks. -/
section
open Go.RowKit
theorem dF(P:Program)(w:World)(dT sT ty elem:TypeId)(g o Xk aa8:Nat)(a:Addr)(Yu aa4:Nat)(cur:Array Value)(t:TypeId)(cs:List Value)(k m:Nat)
 (hu:P.underlying dT=some (.slice elem))(hs:(P.info? elem).map (·.size)=some k)
 (hg:w.heap[g]?=some (.cells cur t (0,0)))(hm:m=Nat.min Yu Xk)(hn:cs.length=m*k)
 (Vy:∀j v,cs[j]?=some v→w.cell? (a.add j)=some v)(kD:o+cs.length≤cur.size)(h1:∀v∈cs,v.oneCell'=true):
 (Builtin.copy_ #[dT,sT] ty #[.slice (some ⟨g,o,none⟩) Xk aa8,.slice (some a) Yu aa4]).run P w=
   .ok (goInt m) (w.setRow g (cur.toList.take o++cs++cur.toList.drop (o+cs.length)).toArray):=by
 have hl:=run_loadCells_list (P:=P) w a cs Vy
 have ev:=run_storeCells_at P g o t cs 0 cur w hg (by simpa using kD) h1
 cases hq:P.info? elem with
 | none=>simp[hq]at hs
 | some i=>
  have hi:i.size=k:=by simpa [hq]using hs
  simp[Builtin.copy_,run_underlying hu,Builtin.lenOf,Builtin.firstCells,sizeOf,typeInfo,hq,hi,←hm,←hn,hl,ev]
structure Kb(S:List Nat)(w w':World):Prop where
 os:w'.os=w.os
 tape:w'.tape=w.tape
 output:w'.output=w.output
 size:w.heap.size≤w'.heap.size
 block:∀k,k<w.heap.size→¬k∈S→w'.heap[k]?=w.heap[k]?
theorem Kb.refl(S:List Nat)(w:World):Kb S w w:=⟨rfl,rfl,rfl,Nat.le_refl _,fun _ _ _=>rfl⟩
theorem Kb.trans{S:List Nat}{w w1 w2:World}(h:Kb S w w1)(k:Kb S w1 w2):Kb S w w2:=
 ⟨k.os.trans h.os,k.tape.trans h.tape,k.output.trans h.output,Nat.le_trans h.size k.size,fun i hi hr=>(k.block i (Nat.lt_of_lt_of_le hi h.size) hr).trans (h.block i hi hr)⟩
theorem Kb.trans'{S S':List Nat}{w w1 w2:World}(h:Kb S w w1)(k:Kb S' w1 w2)(hS:∀i,i∈S'→i<w.heap.size→i∈S):Kb S w w2:=
 ⟨k.os.trans h.os,k.tape.trans h.tape,k.output.trans h.output,Nat.le_trans h.size k.size,fun i hi hr=>(k.block i (Nat.lt_of_lt_of_le hi h.size) (fun e=>hr (hS i e hi))).trans (h.block i hi hr)⟩
theorem Kb.mono{S S':List Nat}{w w':World}(h:Kb S w w')(hS:∀i,i∈S→i<w.heap.size→i∈S'):Kb S' w w':=
 ⟨h.os,h.tape,h.output,h.size,fun i hi hr=>h.block i hi (fun e=>hr (hS i e hi))⟩
theorem Kb.drew{S:List Nat}{w w':World}(h:Kb S w w'):Kb S w w'.drew:=⟨h.os,h.tape,h.output,h.size,h.block⟩
theorem Kb.alloc{S:List Nat}{w w':World}(h:Kb S w w')(o:Obj):Kb S w (w'.alloc o):=
 h.trans ⟨rfl,rfl,rfl,by simp,fun k hk _=>Below.heap_alloc _ _ _ hk⟩
theorem Kb.below{S:List Nat}{w w1 w2:World}(h:Kb S w w1)(k:Below w1.heap.size w1 w2):Kb S w w2:=
 h.trans ⟨k.os,k.tape,k.output,k.size,fun i hi _=>k.block i hi⟩
theorem Kb.bF{w w1:World}(k:Below w.heap.size w w1)(S:List Nat):Kb S w w1:=(Kb.refl S w).below k
theorem Kb.dz{w w1:World}{row:Option Nat}(k:w.grownBy w1 row):Kb row.toList w w1:=
 ⟨k.os,k.tape,k.output,k.size,fun i hi hr=>k.block i hi (fun e=>hr (by rw[←e];simp))⟩
theorem Kb.aK{S:List Nat}{w0 w w':World}{B:Nat}(h:Kb S w w')(h0:Below B w0 w)(hB:B≤w.heap.size)(hS:∀i,i∈S→B≤i):Below B w0 w':=
 h0.trans ⟨h.os,h.tape,h.output,h.size,fun i hi=>h.block i (by omega) (fun e=>by have:=hS i e;omega)⟩
theorem Kb.heap{S:List Nat}{w w':World}(h:Kb S w w'){k:Nat}{o:Obj}(hk:w.heap[k]?=some o)(hS:¬k∈S):w'.heap[k]?=some o:=by
 rw[h.block k (Array.getElem?_eq_some_iff.1 hk).1 hS,hk]
theorem Kb.row{S:List Nat}{w w':World}{base:Nat}{e:TypeId}{size:Nat}{v:Value}{n:Nat}{xs:List Value}(h:Kb S w w')(ho:w.ownsRow base e size v n xs)(hS:∀b,v.ownBlock=some b→¬b∈S):w'.ownsRow base e size v n xs:=by
 refine⟨ho.1, ?_⟩
 rcases ho.2 with h0 | ⟨g,cap,cur,rfl,hb,hg,hr⟩
 · exact .inl h0
 · exact .inr ⟨g,cap,cur,rfl,hb,h.heap hg (hS g rfl),hr⟩
theorem Kb.dQ{S:List Nat}{w w':World}{base:Nat}{e:TypeId}{size:Nat}{v:Value}{n:Nat}{xs:List Value}(h:Kb S w w')(ho:w.ownsRow base e size v n xs)(hS:∀b cur fz,b∈S→w.heap[b]?=some (.cells cur e fz)→False):w'.ownsRow base e size v n xs:=by
 refine h.row ho ?_
 intro b hb hc
 rcases ho.2 with⟨rfl,_⟩ | ⟨g,cap,cur,rfl,_,hg,_⟩
 · cases hb
 · simp only[Value.ownBlock,Option.some.injEq]at hb
   subst hb
   exact hS _ _ _ hc hg
theorem bt(w:World)(g:Nat)(cs:Array Value){cur:Array Value}{t:TypeId}{fr:Nat×Nat}(h:w.heap[g]?=some (.cells cur t fr)):(w.setRow g cs).heap[g]?=some (.cells cs t fr):=setRow_heap w g cur cs t fr h
theorem dR(w:World)(g k:Nat)(cs:Array Value)(h:k≠g):(w.setRow g cs).heap[k]?=w.heap[k]?:=by
 simp only[World.setRow,Array.getElem?_modify]
 rw[if_neg (by omega)]
theorem Kb.setRow(w:World)(g:Nat)(cs:Array Value):Kb [g] w (w.setRow g cs):=
 ⟨rfl,rfl,rfl,by simp[World.setRow],fun k _ hr=>dR w g k cs (by simpa using hr)⟩
theorem Kb.setCell(w:World)(a:Addr)(v:Value):Kb [a.block] w (w.setCell a v):=
 ⟨rfl,rfl,rfl,by simp[World.setCell],fun k _ hr=>Below.heap_setCell _ _ _ _ (by simpa using hr)⟩
def cw(w:World)(v v':Value):Prop:=∀b,v'.ownBlock=some b→v.ownBlock=some b∨w.heap.size≤b
theorem cw.refl(w:World)(v:Value):cw w v v:=fun _ h=>.inl h
theorem cw.mono{w W:World}{u v:Value}(h:cw W u v)(hs:w.heap.size≤W.heap.size):cw w u v:=by
 intro b hb
 rcases h b hb with e | e
 · exact .inl e
 · exact .inr (Nat.le_trans hs e)
end
end Go.Proofs.YtdmicblafmhflaaGreatDoor

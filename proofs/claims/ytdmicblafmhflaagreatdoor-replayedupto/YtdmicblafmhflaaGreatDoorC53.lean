/- The card of Replayed holds: for all rules and both scripts of a bulk up to the given bound, and every cut, a log that is gone through again from an export gives the engine that stood there, as far as its records are whole; an export that lacks its first byte is refused. Condition: that bound, and the three tables as the program's text lays them. -/
import Derived.Test.YtdmicblafmhflaaGreatDoorRows
import Derived.JoinedCond
import Derived.Test.YtdmicblafmhflaaGreatDoorC39
import Derived.Test.YtdmicblafmhflaaGreatDoorC52
import Derived.Test.YtdmicblafmhflaaGreatDoorCards
import Derived.Test.YtdmicblafmhflaaGreatDoorTie
import Derived.WalkKit
import Derived.ProofKit
import Derived.OpenShut
import Derived.WideKeyArgs
import Derived.Deep.DeepHandedRow
import Derived.Lib.LaidTab
import Derived.Lib.LaidU8T
set_option linter.unusedSimpArgs false
set_option linter.unusedVariables false
set_option maxHeartbeats 4000000
set_option maxRecDepth 100000
namespace Go.Proofs.YtdmicblafmhflaaGreatDoor
/- Replayed's row: the closed facts that its cells ask, one by one. -/
section
theorem vC:joinedFacts Tryz.prog 10 Tryz.f10 (Rows.OpenSpec.upto Rows.replayedSpec).bare Rows.replayedUptoRow=true:=by
 unfold joinedFacts
 simp only[Bool.and_eq_true]
 repeat' apply And.intro
 all_goals as_aux_lemma=>kernel_rfl
end
namespace replayed
open Go.ChangeShapes Go.WideShapes Go.ChangeAt Go.RowKit
theorem own:ownKnob Tryz.prog.godebug=none:=by kernel_rfl
theorem laidOut:laidOutB Tryz.prog=true:=by kernel_rfl
def Gk:String:=(Rows.replayedUptoRow.laid.headD ("",.nil)).1
theorem Ns:Tryz.prog.globalNamed Gk=some 0:=by kernel_rfl
theorem GU:(Tryz.prog.globals[0]?).map (·.type)=some 234:=by kernel_rfl
theorem Ga:Tryz.prog.cellsOf 234=64:=by kernel_rfl
theorem M4:Tryz.prog.cellsOf 228=1:=by kernel_rfl
def abo(d:DataW Unit):List Int:=match d with
 | .agg l=>l.map fun x=>match x with
  | .lit (.int _ z)=>z
  | _=>0
 | _=>[]
def vO:List Int:=abo Rows.laid_axiom_digest_roundWords
theorem Of:(Rows.laid_axiom_digest_roundWords:DataW Unit)=Lib.tabData .u32 vO:=by kernel_rfl
theorem Ka:vO.length=64:=by kernel_rfl
theorem K8:(Rows.laid_unicode_utf8_acceptRanges:DataW Unit)=Lib.acceptData:=by kernel_rfl
theorem N7:Rows.laid_unicode_utf8_first=Lib.firstData:=by kernel_rfl
def K:Nat→Int:=fun i=>vO.getD i 0
theorem Vg{W:World}(h:laidMetH Tryz.prog Rows.replayedUptoRow.laid W):Dg.uw W K:=by
 have h1:laidMet Tryz.prog ((Gk,Rows.laid_axiom_digest_roundWords)::[("unicode/utf8.acceptRanges",Rows.laid_unicode_utf8_acceptRanges),("unicode/utf8.first",Rows.laid_unicode_utf8_first)]) W:=h
 rw[Of]at h1
 have h2:=Lib.tabIs_of_head Ns GU Tryz.underlying234 Tryz.underlying228 M4 Ga h1
 intro i hi
 exact h2.cell Ns i (by rw[Ka];exact hi)
theorem Rk:U8Types Tryz.prog Fj where
 t5:=Tryz.underlying5
 t119:=Tryz.underlying404
 t138:=Tryz.underlying406
 t139:=Tryz.underlying407
theorem Me{W:World}(h:laidMetH Tryz.prog Rows.replayedUptoRow.laid W):eW W:=by
 have h1:laidMet Tryz.prog [(Gk,Rows.laid_axiom_digest_roundWords),("unicode/utf8.acceptRanges",Rows.laid_unicode_utf8_acceptRanges),("unicode/utf8.first",Rows.laid_unicode_utf8_first)] W:=h
 rw[K8,N7]at h1
 exact utf8Tabs_of_readsT (ρ:=Fj) Rk ⟨by kernel_rfl,by kernel_rfl,by kernel_rfl,by kernel_rfl,by kernel_rfl,by kernel_rfl,by kernel_rfl⟩ (Lib.laidMet.reads h1 (.tail _ (.tail _ (.head _)))) (Lib.laidMet.reads h1 (.tail _ (.head _)))
theorem one_le{H:Type}(d:DataW H):1≤Rows.uptoBulk d:=by
 cases d with
 | lit l=>cases l<;>simp[Rows.uptoBulk]
 | nil=>simp[Rows.uptoBulk]
 | ptr d=>simp[Rows.uptoBulk]
 | slice elems spare=>simp[Rows.uptoBulk]
 | agg parts=>simp[Rows.uptoBulk]
 | iface t d=>simp[Rows.uptoBulk]
 | map entries=>simp[Rows.uptoBulk]
 | held h=>simp[Rows.uptoBulk]
theorem length_le{H:Type}(l:List (DataW H)):l.length≤Rows.uptoBulkAll l:=by
 induction l with
 | nil=>simp[Rows.uptoBulkAll]
 | cons x r ih=>have:=one_le x;simp only[Rows.uptoBulkAll,List.length_cons];omega
theorem QJ{H:Type}{d0 d1 d2 d3:DataW H}(hk:Rows.uptoSmall H [d0,d1,d2,d3]=true):Rows.uptoBulk d1+Rows.uptoBulk d2≤1048576:=by
 have h:Rows.uptoBulkAll [d0,d1,d2,d3]≤1048576:=of_decide_eq_true hk
 simp only[Rows.uptoBulkAll]at h
 omega
theorem DM{H:Type}{es sp:List (DataW H)}:es.length≤Rows.uptoBulk (.slice es sp:DataW H):=by
 have:=length_le es
 simp only[Rows.uptoBulk]
 omega
theorem T9{W:World}{base:Nat}{z:Int}(h:Value.okWide Tryz.prog W .any base 3 (.int .i64 z)):cr z:=by
 have Y4:IntKind.i64.min= -9223372036854775808:=rfl
 have W5:IntKind.i64.max=9223372036854775807:=rfl
 simp only[Value.okWide,Tryz.underlying3,Cell.okWide,Cell.ok,IntKind.has]at h
 simp[Y4,W5]at h
 exact h
theorem Od(H:Type)(enc:TypeId×Value→H)(W:World)(base:Nat)(args:Array Value)(ds gs:List (DataW H))(before:List MemPlace)
 (Bp:∀(j:Nat) t v,Tryz.f10.params[j]?=some t→args[j]?=some v→Value.okWide Tryz.prog W .any base t v)
 (hW:DataW.Whole enc Tryz.prog Tryz.f10.params.toList Rows.replayedSpec.vars false W args.toList ds gs before)(hk:Rows.uptoSmall H (ds++gs)=true)(hL:laidMetH Tryz.prog Rows.replayedUptoRow.laid W):
 Calls Tryz.prog 10 args W fun e W'=>∃v,e=.returned v∧Rows.replayedSpec.post enc Tryz.prog Tryz.f10 false true false false W args v W':=by
 have hW':=hW
 obtain⟨p,q,E5,hV,rfl,SD,C6⟩:=hW
 have hA:DataW.TrodAll enc Tryz.prog W 0 (fun _=>true) true Tryz.f10.params.toList args.toList ds p:=E5
 rw[Tryz.params10]at hA Bp
 obtain⟨v0,vs0,d0,ds0,p0,q0,agj,rfl,rfl,h0,r0⟩:=trodAll_cons hA
 obtain⟨v1,vs1,d1,ds1,p1,q1,rfl,rfl,rfl,h1,r1⟩:=trodAll_cons r0
 obtain⟨v2,vs2,d2,ds2,p2,q2,rfl,rfl,rfl,h2,r2⟩:=trodAll_cons r1
 obtain⟨v3,vs3,d3,ds3,p3,q3,rfl,rfl,rfl,h3,r3⟩:=trodAll_cons r2
 obtain⟨rfl,rfl,rfl⟩:=trodAll_nil r3
 obtain rfl:args=#[v0,v1,v2,v3]:=by cases args;simp_all
 obtain⟨rfl,rfl⟩:=trodVars_none hV
 obtain⟨b0,n0,c0,rfl⟩:=okWide_slice Tryz.underlying25 (Bp 0 25 v0 rfl rfl)
 obtain⟨b1,n1,c1,rfl⟩:=okWide_slice Tryz.underlying26 (Bp 1 26 v1 rfl rfl)
 obtain⟨b2,n2,c2,rfl⟩:=okWide_slice Tryz.underlying26 (Bp 2 26 v2 rfl rfl)
 have LC:=Bp 3 3 v3 rfl rfl
 obtain⟨z3,rfl⟩:=okWide_int Tryz.underlying3 LC
 have hz3:cr z3:=T9 LC
 have h0k:=h0
 have h1k:=h1
 have h2k:=h2
 have h3k:=h3
 obtain⟨aeo,ZB⟩:=h0
 obtain⟨YV,Ot⟩:=h1
 obtain⟨Zh,CJ⟩:=h2
 have fm:Rows.uptoBulk d1+Rows.uptoBulk d2≤1048576:=by
  rw[List.append_nil]at hk
  exact QJ hk
 have hsl:n1≤Rows.uptoBulk d1:=by
  have acA:DataW.trod enc Tryz.prog W 0 (fun _=>true) true YV 26 [.slice b1 n1 c1]=some (d1,p1):=Ot
  rcases yu Tryz.underlying26 acA with h9 | ⟨es,sp,e9,l9⟩
  · omega
  · have e9':d1=.slice es sp:=e9
    rw[e9',←l9]
    exact DM
 have xB:n2≤Rows.uptoBulk d2:=by
  have abn:DataW.trod enc Tryz.prog W 0 (fun _=>true) true Zh 26 [.slice b2 n2 c2]=some (d2,p2):=CJ
  rcases yu Tryz.underlying26 abn with h9 | ⟨es,sp,e9,l9⟩
  · omega
  · have e9':d2=.slice es sp:=e9
    rw[e9',←l9]
    exact DM
 obtain⟨ad,n,c,l,e0,hR⟩:=Oc ZB
 obtain⟨sd,sn,sc,sl,e1,hS⟩:=D1 Ot
 obtain⟨td,tn,tc,tl,e2,hT⟩:=D1 CJ
 simp[Value.cells]at e0 e1 e2
 obtain⟨rfl,rfl,rfl⟩:=e0
 obtain⟨rfl,rfl,rfl⟩:=e1
 obtain⟨rfl,rfl,rfl⟩:=e2
 clear E5 ZB Ot CJ
 simp only[List.append_nil]at hW'
 have aE:∀x∈p0++(p1++(p2++p3)),x.block<W.heap.size:=fun x hx=>hW'.lt x (by simpa using hx)
 refine(yH K W b0 n0 c0 l hR b1 n1 c1 sl hS b2 n2 c2 tl hT z3 hz3 (by rw[hS.len,hT.len];omega) (Vg hL) (Me hL)).mono fun e W' ⟨he,hg⟩=> ?_
 subst he
 have s0:DataW.Trod enc Tryz.prog W' 0 (fun b=>decide (b<W.heap.size)) true 25 (.slice b0 n0 c0) d0 p0:=
  WideElems.Trod_stays laidOut (by kernel_rfl) (of_decide_eq_true (by kernel_rfl)) h0k (fun x hx=>hg.same (aE x (by simp[hx]))) (fun x hx=>by simpa using aE x (by simp[hx]))
 have s1:DataW.Trod enc Tryz.prog W' 0 (fun b=>decide (b<W.heap.size)) true 26 (.slice b1 n1 c1) d1 p1:=
  WideElems.Trod_stays laidOut (by kernel_rfl) (of_decide_eq_true (by kernel_rfl)) h1k (fun x hx=>hg.same (aE x (by simp[hx]))) (fun x hx=>by simpa using aE x (by simp[hx]))
 have s2:DataW.Trod enc Tryz.prog W' 0 (fun b=>decide (b<W.heap.size)) true 26 (.slice b2 n2 c2) d2 p2:=
  WideElems.Trod_stays laidOut (by kernel_rfl) (of_decide_eq_true (by kernel_rfl)) h2k (fun x hx=>hg.same (aE x (by simp[hx]))) (fun x hx=>by simpa using aE x (by simp[hx]))
 have s3:DataW.Trod enc Tryz.prog W' 0 (fun b=>decide (b<W.heap.size)) true 3 (.int .i64 z3) d3 p3:=
  WideElems.Trod_stays laidOut (by kernel_rfl) (of_decide_eq_true (by kernel_rfl)) h3k (fun x hx=>hg.same (aE x (by simp[hx]))) (fun x hx=>by simpa using aE x (by simp[hx]))
 exact⟨_,rfl,_,_,_,[],_,[],hW',trodAll_cons_mk (shut_bool Tryz.underlying4 _) trodAll_mk0,trodAll_cons_mk s0 (trodAll_cons_mk s1 (trodAll_cons_mk s2 (trodAll_cons_mk s3 trodAll_mk0))),rfl,hg.frame _,fun h=>by cases h⟩
def sZ (P : Program) (os : Os) : World :=
 let w0:=World.holding P os ⟨#[],#[],[]⟩
 let put (h:Array Obj) (g:Nat) (cs:Array Value):Array Obj:=h.modify g fun
  | .cells _ t frozen=>.cells cs t frozen
  | o=>o
 let h1:=put w0.heap 0 (vO.map fun z=>Value.int .u32 z).toArray
 let h2:=put h1 3 ((List.range 16).flatMap fun i=>[Value.int .u8 (Lib.accLo i),Value.int .u8 (Lib.accHi i)]).toArray
 let h3:=put h2 2 (Lib.firstTab.map fun z=>Value.int .u8 z).toArray
 {w0 with heap:=h3}
theorem OV(os:Os):laidMet Tryz.prog Rows.replayedUptoRow.laid ((sZ Tryz.prog os).forCall (fun _ _=>0) ⟨#[],#[.slice none 0 0,.slice none 0 0,.slice none 0 0,.int .i64 0],[]⟩).memory:=
 laidMet_of_run' 8 (by kernel_rfl) (by kernel_rfl)
theorem reads(os:Os){H:Type}(enc:TypeId×Value→H):∃places,DataW.whole enc Tryz.prog ((sZ Tryz.prog os).forCall (fun _ _=>0) ⟨#[],#[.slice none 0 0,.slice none 0 0,.slice none 0 0,.int .i64 0],[]⟩).memory Tryz.f10.params.toList Rows.replayedSpec.vars false #[Value.slice none 0 0,Value.slice none 0 0,Value.slice none 0 0,Value.int .i64 0].toList 8=some ([.nil,.nil,.nil,.lit (.int .i64 0)],[],places):=
 ⟨[],by kernel_rfl⟩
theorem lifted(os:Os)(started:os.Started)(H:Type)(enc:TypeId×Value→H)(F:Stop.Interp):
 ReturnsInHanded {} Tryz.checked os 10 .any ((Rows.OpenSpec.upto Rows.replayedSpec).preRow enc Tryz.prog Tryz.f10 Rows.replayedUptoRow.domain false Rows.replayedUptoRow.laid) (((Rows.OpenSpec.upto Rows.replayedSpec).at F).post enc Tryz.prog Tryz.f10 false true false false):=by
 obtain⟨places,hx⟩:=reads os enc
 refine returnsInHanded_of_row (C:=Tryz.checked) (s:=Rows.OpenSpec.upto Rows.replayedSpec) own started (by kernel_rfl) Tryz.func10
  (witness_row_at (enc:=enc) (C:=Tryz.checked) false (sZ Tryz.prog os) #[.slice none 0 0,.slice none 0 0,.slice none 0 0,.int .i64 0] rfl (by kernel_rfl) (by kernel_rfl) (by kernel_rfl)
    (OpenSpec.preRow_of_cond 8 hx (by kernel_rfl) (fun k hk=>by cases hk;kernel_rfl) (by kernel_rfl) (OV os))) ?_
 intro W base args ds gs before Bp hW _ Dd _ hL _ _
 exact Od H enc W base args ds gs before Bp hW (Dd _ rfl) hL
theorem said:Rows.ReplayedUptoSaid:=
 OpenClaim.holds_of_cond 10 Tryz.f10 rfl rfl rfl rfl rfl rfl rfl ⟨rfl,rfl,rfl,rfl,rfl⟩ rfl rfl rfl rfl rfl (by kernel_rfl) Tryz.func10 vC
  (of_decide_eq_true (by kernel_rfl)) (by unfold Func.isWrapper;first | (rw[if_pos (by decide+kernel)];kernel_rfl) | (rw[if_neg (by decide+kernel)];exact⟨rfl,rfl⟩))
  (fun os started H enc _ F=>by rw[OpenClaim.pre_eq_preRow];exact lifted os started H enc F)
theorem plain(f:FuncId)(fn:Func)(hf:Tryz.pinned.checked.prog.funcNamed Rows.replayedUptoRow.func=some f)(CA:Tryz.pinned.checked.prog.funcs[f]?=some fn):
 false=Tryz.pinned.checked.prog.looks []∧∀(j:Nat) t,fn.params[j]?=some t→Tryz.pinned.checked.prog.wantsStandIn t=false:=by
 obtain rfl:f=10:=Option.some.inj ((show Tryz.prog.funcNamed Rows.replayedUptoRow.func=some 10 by kernel_rfl).symm.trans hf) |>.symm
 obtain rfl:fn=Tryz.f10:=(Option.some.inj (Tryz.func10.symm.trans CA)).symm
 refine⟨by kernel_rfl,fun j t ht=> ?_⟩
 rw[Tryz.params10]at ht
 have hm:t=25∨t=26∨t=3:=by simpa using Array.mem_of_getElem? ht
 rcases hm with rfl | rfl | rfl
 · exact(show Tryz.prog.wantsStandIn 25=false by kernel_rfl)
 · exact(show Tryz.prog.wantsStandIn 26=false by kernel_rfl)
 · exact(show Tryz.prog.wantsStandIn 3=false by kernel_rfl)
theorem card:Rows.ReplayedUptoCardSaid:=
 Claim7.holds_tied_plain_at .later [] _ _ _ _ said (fun _ h=>by cases h) (by kernel_rfl) (fun _ h=>by cases h) replayedUpto_row_tie rfl ⟨rfl,rfl⟩ (by kernel_rfl) rfl plain (by kernel_rfl)
end replayed
section
theorem replayed_holds:Rows.ReplayedUptoCardSaid:=replayed.card
end
end Go.Proofs.YtdmicblafmhflaaGreatDoor

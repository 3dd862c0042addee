/- The card of Strict holds: for all rules, scripts and bytes of a bulk up to the given bound, what Import takes is what Export gives again, and an export with a byte turned, a byte less or a byte more is taken only where it should be. Condition: that bound, and the three tables as the program's text lays them. -/
import Derived.Test.YtdmicblafmhflaaGreatDoorC39
import Derived.Test.YtdmicblafmhflaaGreatDoorC50
import Derived.Test.YtdmicblafmhflaaGreatDoorC51
import Derived.Test.YtdmicblafmhflaaGreatDoorCards
import Derived.Test.YtdmicblafmhflaaGreatDoorTie
import Derived.WalkKit
import Derived.ProofKit
import Derived.OpenShut
import Derived.WideKeyArgs
import Derived.Deep.DeepHandedRow
import Derived.Lib.LaidTab
import Derived.Lib.LaidU8T
set_option linter.unusedSimpArgs false
set_option linter.unusedVariables false
set_option maxRecDepth 100000
namespace Go.Proofs.YtdmicblafmhflaaGreatDoor
namespace strict
open Go.ChangeShapes Go.WideShapes Go.ChangeAt Go.RowKit
open Go.ChangeMaps (open_string shut_string)
theorem own:ownKnob Tryz.prog.godebug=none:=by kernel_rfl
theorem laidOut:laidOutB Tryz.prog=true:=by kernel_rfl
def Ij:String:=(Rows.strictUptoRow.laid.headD ("",.nil)).1
theorem Pm:Tryz.prog.globalNamed Ij=some 0:=by kernel_rfl
theorem F9:(Tryz.prog.globals[0]?).map (·.type)=some 234:=by kernel_rfl
theorem Gy:Tryz.prog.cellsOf 234=64:=by kernel_rfl
theorem NK:Tryz.prog.cellsOf 228=1:=by kernel_rfl
def abF(d:DataW Unit):List Int:=match d with
 | .agg l=>l.map fun x=>match x with
  | .lit (.int _ z)=>z
  | _=>0
 | _=>[]
def wb:List Int:=abF Rows.laid_axiom_digest_roundWords
theorem NF:(Rows.laid_axiom_digest_roundWords:DataW Unit)=Lib.tabData .u32 wb:=by kernel_rfl
theorem KV:wb.length=64:=by kernel_rfl
theorem KK:(Rows.laid_unicode_utf8_acceptRanges:DataW Unit)=Lib.acceptData:=by kernel_rfl
theorem Ph:Rows.laid_unicode_utf8_first=Lib.firstData:=by kernel_rfl
def K:Nat→Int:=fun i=>wb.getD i 0
theorem Ul{W:World}(h:laidMetH Tryz.prog Rows.strictUptoRow.laid W):Dg.C4 W K:=by
 have h1:laidMet Tryz.prog ((Ij,Rows.laid_axiom_digest_roundWords)::[("unicode/utf8.acceptRanges",Rows.laid_unicode_utf8_acceptRanges),("unicode/utf8.first",Rows.laid_unicode_utf8_first)]) W:=h
 rw[NF]at h1
 have h2:=Lib.tabIs_of_head Pm F9 Tryz.underlying234 Tryz.underlying228 NK Gy h1
 intro i hi
 exact h2.cell Pm i (by rw[KV];exact hi)
theorem Qs:U8Types Tryz.prog Gr where
 t5:=Tryz.underlying5
 t119:=Tryz.underlying404
 t138:=Tryz.underlying406
 t139:=Tryz.underlying407
theorem Mt{W:World}(h:laidMetH Tryz.prog Rows.strictUptoRow.laid W):fw W:=by
 have h1:laidMet Tryz.prog [(Ij,Rows.laid_axiom_digest_roundWords),("unicode/utf8.acceptRanges",Rows.laid_unicode_utf8_acceptRanges),("unicode/utf8.first",Rows.laid_unicode_utf8_first)] W:=h
 rw[KK,Ph]at h1
 exact utf8Tabs_of_readsT (ρ:=Gr) Qs ⟨by kernel_rfl,by kernel_rfl,by kernel_rfl,by kernel_rfl,by kernel_rfl,by kernel_rfl,by kernel_rfl⟩ (Lib.laidMet.reads h1 (.tail _ (.tail _ (.head _)))) (Lib.laidMet.reads h1 (.tail _ (.head _)))
theorem one_le{H:Type}(d:DataW H):1≤Rows.uptoBulk d:=by
 cases d with
 | lit l=>cases l<;>simp[Rows.uptoBulk]
 | nil=>simp[Rows.uptoBulk]
 | ptr d=>simp[Rows.uptoBulk]
 | slice elems spare=>simp[Rows.uptoBulk]
 | agg parts=>simp[Rows.uptoBulk]
 | iface t d=>simp[Rows.uptoBulk]
 | map entries=>simp[Rows.uptoBulk]
 | held h=>simp[Rows.uptoBulk]
theorem length_le{H:Type}(l:List (DataW H)):l.length≤Rows.uptoBulkAll l:=by
 induction l with
 | nil=>simp[Rows.uptoBulkAll]
 | cons x r ih=>have:=one_le x;simp only[Rows.uptoBulkAll,List.length_cons];omega
theorem Qn{H:Type}{d0 d1 d2 d3:DataW H}{l:List UInt8}(hk:Rows.uptoSmall H [d0,d1,d2,d3,.lit (.string l)]=true):Rows.uptoBulk d1≤1048576∧l.length≤1048576:=by
 have h:Rows.uptoBulkAll [d0,d1,d2,d3,.lit (.string l)]≤1048576:=of_decide_eq_true hk
 simp only[Rows.uptoBulkAll,Rows.uptoBulk]at h
 omega
theorem NS{H:Type}{es sp:List (DataW H)}:es.length≤Rows.uptoBulk (.slice es sp:DataW H):=by
 have:=length_le es
 simp only[Rows.uptoBulk]
 omega
theorem OB{W:World}{base:Nat}{z:Int}(h:Value.okWide Tryz.prog W .any base 3 (.int .i64 z)):b8 z:=by
 have Xq:IntKind.i64.min= -9223372036854775808:=rfl
 have ZH:IntKind.i64.max=9223372036854775807:=rfl
 simp only[Value.okWide,Tryz.underlying3,Cell.okWide,Cell.ok,IntKind.has]at h
 simp[Xq,ZH]at h
 exact h
theorem OS(H:Type)(enc:TypeId×Value→H)(W:World)(base:Nat)(args:Array Value)(ds gs:List (DataW H))(before:List MemPlace)
 (vK:∀(j:Nat) t v,Tryz.f9.params[j]?=some t→args[j]?=some v→Value.okWide Tryz.prog W .any base t v)
 (hW:DataW.Whole enc Tryz.prog Tryz.f9.params.toList Rows.strictSpec.vars false W args.toList ds gs before)(hk:Rows.uptoSmall H (ds++gs)=true)(hL:laidMetH Tryz.prog Rows.strictUptoRow.laid W):
 Calls Tryz.prog 9 args W fun e W'=>∃v,e=.returned v∧Rows.strictSpec.post enc Tryz.prog Tryz.f9 false true false false W args v W':=by
 have hW':=hW
 obtain⟨p,q,FN,hV,rfl,SD,vz⟩:=hW
 have hA:DataW.TrodAll enc Tryz.prog W 0 (fun _=>true) true Tryz.f9.params.toList args.toList ds p:=FN
 rw[Tryz.params9]at hA vK
 obtain⟨v0,vs0,d0,ds0,p0,q0,aeg,rfl,rfl,h0,r0⟩:=trodAll_cons hA
 obtain⟨v1,vs1,d1,ds1,p1,q1,rfl,rfl,rfl,h1,r1⟩:=trodAll_cons r0
 obtain⟨v2,vs2,d2,ds2,p2,q2,rfl,rfl,rfl,h2,r2⟩:=trodAll_cons r1
 obtain⟨v3,vs3,d3,ds3,p3,q3,rfl,rfl,rfl,h3,r3⟩:=trodAll_cons r2
 obtain⟨v4,vs4,d4,ds4,p4,q4,rfl,rfl,rfl,h4,r4⟩:=trodAll_cons r3
 obtain⟨rfl,rfl,rfl⟩:=trodAll_nil r4
 obtain rfl:args=#[v0,v1,v2,v3,v4]:=by cases args;simp_all
 obtain⟨rfl,rfl⟩:=trodVars_none hV
 obtain⟨b0,n0,c0,rfl⟩:=okWide_slice Tryz.underlying25 (vK 0 25 v0 rfl rfl)
 obtain⟨b1,n1,c1,rfl⟩:=okWide_slice Tryz.underlying26 (vK 1 26 v1 rfl rfl)
 have vQ:=vK 2 3 v2 rfl rfl
 obtain⟨z2,rfl⟩:=okWide_int Tryz.underlying3 vQ
 have eA:b8 z2:=OB vQ
 have L0:=vK 3 3 v3 rfl rfl
 obtain⟨z3,rfl⟩:=okWide_int Tryz.underlying3 L0
 have hz3:b8 z3:=OB L0
 obtain⟨a4,rfl,rfl,rfl,w4⟩:=open_string Tryz.underlying9 (vK 4 9 v4 rfl rfl) h4
 have h0k:=h0
 have h1k:=h1
 have h2k:=h2
 have h3k:=h3
 obtain⟨afd,hf0⟩:=h0
 obtain⟨Zn,MQ⟩:=h1
 have fE:Rows.uptoBulk d1≤1048576∧a4.data.toList.length≤1048576:=by
  rw[List.append_nil]at hk
  exact Qn hk
 have hsl:n1≤Rows.uptoBulk d1:=by
  have ado:DataW.trod enc Tryz.prog W 0 (fun _=>true) true Zn 26 [.slice b1 n1 c1]=some (d1,p1):=MQ
  rcases Gl Tryz.underlying26 ado with h9 | ⟨es,sp,e9,l9⟩
  · omega
  · have e9':d1=.slice es sp:=e9
    rw[e9',←l9]
    exact NS
 obtain⟨ad,n,c,l,e0,hR⟩:=L4 hf0
 obtain⟨sd,sn,sc,sl,e1,hS⟩:=OM MQ
 simp[Value.cells]at e0 e1
 obtain⟨rfl,rfl,rfl⟩:=e0
 obtain⟨rfl,rfl,rfl⟩:=e1
 clear FN hf0 MQ
 simp only[List.append_nil]at hW'
 have aC:∀x∈p0++(p1++(p2++p3)),x.block<W.heap.size:=fun x hx=>hW'.lt x (by simpa using hx)
 have PC:(⟨a4.data.toList.toArray⟩:ByteArray)=a4:=by simp
 have hwk:=DP K W b0 n0 c0 l hR b1 n1 c1 sl hS (by rw[hS.len];omega) z2 z3 eA hz3 a4.data.toList (by omega) (Ul hL) (Mt hL)
 rw[PC]at hwk
 refine hwk.mono fun e W' ⟨he,hg⟩=> ?_
 subst he
 have s0:DataW.Trod enc Tryz.prog W' 0 (fun b=>decide (b<W.heap.size)) true 25 (.slice b0 n0 c0) d0 p0:=
  WideElems.Trod_stays laidOut (by kernel_rfl) (of_decide_eq_true (by kernel_rfl)) h0k (fun x hx=>hg.same (aC x (by simp[hx]))) (fun x hx=>by simpa using aC x (by simp[hx]))
 have s1:DataW.Trod enc Tryz.prog W' 0 (fun b=>decide (b<W.heap.size)) true 26 (.slice b1 n1 c1) d1 p1:=
  WideElems.Trod_stays laidOut (by kernel_rfl) (of_decide_eq_true (by kernel_rfl)) h1k (fun x hx=>hg.same (aC x (by simp[hx]))) (fun x hx=>by simpa using aC x (by simp[hx]))
 have s2:DataW.Trod enc Tryz.prog W' 0 (fun b=>decide (b<W.heap.size)) true 3 (.int .i64 z2) d2 p2:=
  WideElems.Trod_stays laidOut (by kernel_rfl) (of_decide_eq_true (by kernel_rfl)) h2k (fun x hx=>hg.same (aC x (by simp[hx]))) (fun x hx=>by simpa using aC x (by simp[hx]))
 have s3:DataW.Trod enc Tryz.prog W' 0 (fun b=>decide (b<W.heap.size)) true 3 (.int .i64 z3) d3 p3:=
  WideElems.Trod_stays laidOut (by kernel_rfl) (of_decide_eq_true (by kernel_rfl)) h3k (fun x hx=>hg.same (aC x (by simp[hx]))) (fun x hx=>by simpa using aC x (by simp[hx]))
 exact⟨_,rfl,_,_,_,[],_,[],hW',trodAll_cons_mk (shut_bool Tryz.underlying4 _) trodAll_mk0,trodAll_cons_mk s0 (trodAll_cons_mk s1 (trodAll_cons_mk s2 (trodAll_cons_mk s3 (trodAll_cons_mk (shut_string Tryz.underlying9 w4) trodAll_mk0)))),rfl,hg.frame _,fun h=>by cases h⟩
def tN (P : Program) (os : Os) : World :=
 let w0:=World.holding P os ⟨#[],#[],[]⟩
 let put (h:Array Obj) (g:Nat) (cs:Array Value):Array Obj:=h.modify g fun
  | .cells _ t frozen=>.cells cs t frozen
  | o=>o
 let h1:=put w0.heap 0 (wb.map fun z=>Value.int .u32 z).toArray
 let h2:=put h1 3 ((List.range 16).flatMap fun i=>[Value.int .u8 (Lib.accLo i),Value.int .u8 (Lib.accHi i)]).toArray
 let h3:=put h2 2 (Lib.firstTab.map fun z=>Value.int .u8 z).toArray
 {w0 with heap:=h3}
theorem NZ(os:Os):laidMet Tryz.prog Rows.strictUptoRow.laid ((tN Tryz.prog os).forCall (fun _ _=>0) ⟨#[],#[.slice none 0 0,.slice none 0 0,.int .i64 0,.int .i64 0,.string ByteArray.empty],[]⟩).memory:=
 laidMet_of_run' 8 (by kernel_rfl) (by kernel_rfl)
theorem reads(os:Os){H:Type}(enc:TypeId×Value→H):∃places,DataW.whole enc Tryz.prog ((tN Tryz.prog os).forCall (fun _ _=>0) ⟨#[],#[.slice none 0 0,.slice none 0 0,.int .i64 0,.int .i64 0,.string ByteArray.empty],[]⟩).memory Tryz.f9.params.toList Rows.strictSpec.vars false #[Value.slice none 0 0,Value.slice none 0 0,Value.int .i64 0,Value.int .i64 0,Value.string ByteArray.empty].toList 8=some ([.nil,.nil,.lit (.int .i64 0),.lit (.int .i64 0),.lit (.string [])],[],places):=
 ⟨[],by kernel_rfl⟩
theorem lifted(os:Os)(started:os.Started)(H:Type)(enc:TypeId×Value→H)(F:Stop.Interp):
 ReturnsInHanded {} Tryz.checked os 9 .any ((Rows.OpenSpec.upto Rows.strictSpec).preRow enc Tryz.prog Tryz.f9 Rows.strictUptoRow.domain false Rows.strictUptoRow.laid) (((Rows.OpenSpec.upto Rows.strictSpec).at F).post enc Tryz.prog Tryz.f9 false true false false):=by
 obtain⟨places,hx⟩:=reads os enc
 refine returnsInHanded_of_row (C:=Tryz.checked) (s:=Rows.OpenSpec.upto Rows.strictSpec) own started (by kernel_rfl) Tryz.func9
  (witness_row_at (enc:=enc) (C:=Tryz.checked) false (tN Tryz.prog os) #[.slice none 0 0,.slice none 0 0,.int .i64 0,.int .i64 0,.string ByteArray.empty] rfl (by kernel_rfl) (by kernel_rfl) (by kernel_rfl)
    (OpenSpec.preRow_of_cond 8 hx (by kernel_rfl) (fun k hk=>by cases hk;kernel_rfl) (by kernel_rfl) (NZ os))) ?_
 intro W base args ds gs before vK hW _ XT _ hL _ _
 exact OS H enc W base args ds gs before vK hW (XT _ rfl) hL
theorem said:Rows.StrictUptoSaid:=
 OpenClaim.holds_of_cond 9 Tryz.f9 rfl rfl rfl rfl rfl rfl rfl ⟨rfl,rfl,rfl,rfl,rfl⟩ rfl rfl rfl rfl rfl (by kernel_rfl) Tryz.func9 ze
  (of_decide_eq_true (by kernel_rfl)) (by unfold Func.isWrapper;first | (rw[if_pos (by decide+kernel)];kernel_rfl) | (rw[if_neg (by decide+kernel)];exact⟨rfl,rfl⟩))
  (fun os started H enc _ F=>by rw[OpenClaim.pre_eq_preRow];exact lifted os started H enc F)
theorem plain(f:FuncId)(fn:Func)(hf:Tryz.pinned.checked.prog.funcNamed Rows.strictUptoRow.func=some f)(JM:Tryz.pinned.checked.prog.funcs[f]?=some fn):
 false=Tryz.pinned.checked.prog.looks []∧∀(j:Nat) t,fn.params[j]?=some t→Tryz.pinned.checked.prog.wantsStandIn t=false:=by
 obtain rfl:f=9:=Option.some.inj ((show Tryz.prog.funcNamed Rows.strictUptoRow.func=some 9 by kernel_rfl).symm.trans hf) |>.symm
 obtain rfl:fn=Tryz.f9:=(Option.some.inj (Tryz.func9.symm.trans JM)).symm
 refine⟨by kernel_rfl,fun j t ht=> ?_⟩
 rw[Tryz.params9]at ht
 have hm:t=25∨t=26∨t=3∨t=9:=by simpa using Array.mem_of_getElem? ht
 rcases hm with rfl | rfl | rfl | rfl
 · exact(show Tryz.prog.wantsStandIn 25=false by kernel_rfl)
 · exact(show Tryz.prog.wantsStandIn 26=false by kernel_rfl)
 · exact(show Tryz.prog.wantsStandIn 3=false by kernel_rfl)
 · exact(show Tryz.prog.wantsStandIn 9=false by kernel_rfl)
theorem card:Rows.StrictUptoCardSaid:=
 Claim7.holds_tied_plain_at .later [] _ _ _ _ said (fun _ h=>by cases h) (by kernel_rfl) (fun _ h=>by cases h) strictUpto_row_tie rfl ⟨rfl,rfl⟩ (by kernel_rfl) rfl plain (by kernel_rfl)
end strict
section
theorem strict_holds:Rows.StrictUptoCardSaid:=strict.card
end
end Go.Proofs.YtdmicblafmhflaaGreatDoor

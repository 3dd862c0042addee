/- The card of Resumed holds: for all rules and both scripts of a bulk up to the given bound, an engine that is imported from an export answers as the one that was exported, is exported as the same bytes and goes on as it does. Condition: that bound, and the three tables as the program's text lays them. -/
import Derived.Test.YtdmicblafmhflaaGreatDoorC41
import Derived.Test.YtdmicblafmhflaaGreatDoorC51
import Derived.Test.YtdmicblafmhflaaGreatDoorC52
import Derived.Test.YtdmicblafmhflaaGreatDoorCards
import Derived.Test.YtdmicblafmhflaaGreatDoorTie
import Derived.WalkKit
import Derived.ProofKit
import Derived.OpenShut
import Derived.WideKeyArgs
import Derived.Deep.DeepHandedRow
import Derived.Lib.LaidTab
import Derived.Lib.LaidU8T
set_option linter.unusedSimpArgs false
set_option linter.unusedVariables false
set_option maxRecDepth 100000
namespace Go.Proofs.YtdmicblafmhflaaGreatDoor
namespace resumed
open Go.ChangeShapes Go.WideShapes Go.ChangeAt Go.RowKit
theorem own:ownKnob Tryz.prog.godebug=none:=by kernel_rfl
theorem laidOut:laidOutB Tryz.prog=true:=by kernel_rfl
def Gu:String:=(Rows.resumedUptoRow.laid.headD ("",.nil)).1
theorem L0:Tryz.prog.globalNamed Gu=some 0:=by kernel_rfl
theorem Fz:(Tryz.prog.globals[0]?).map (·.type)=some 234:=by kernel_rfl
theorem F3:Tryz.prog.cellsOf 234=64:=by kernel_rfl
theorem NX:Tryz.prog.cellsOf 228=1:=by kernel_rfl
def ade(d:DataW Unit):List Int:=match d with
 | .agg l=>l.map fun x=>match x with
  | .lit (.int _ z)=>z
  | _=>0
 | _=>[]
def vw:List Int:=ade Rows.laid_axiom_digest_roundWords
theorem Oq:(Rows.laid_axiom_digest_roundWords:DataW Unit)=Lib.tabData .u32 vw:=by kernel_rfl
theorem Kv:vw.length=64:=by kernel_rfl
theorem JT:(Rows.laid_unicode_utf8_acceptRanges:DataW Unit)=Lib.acceptData:=by kernel_rfl
theorem Ni:Rows.laid_unicode_utf8_first=Lib.firstData:=by kernel_rfl
def K:Nat→Int:=fun i=>vw.getD i 0
theorem UX{W:World}(h:laidMetH Tryz.prog Rows.resumedUptoRow.laid W):Dg.AR W K:=by
 have h1:laidMet Tryz.prog ((Gu,Rows.laid_axiom_digest_roundWords)::[("unicode/utf8.acceptRanges",Rows.laid_unicode_utf8_acceptRanges),("unicode/utf8.first",Rows.laid_unicode_utf8_first)]) W:=h
 rw[Oq]at h1
 have h2:=Lib.tabIs_of_head L0 Fz Tryz.underlying234 Tryz.underlying228 NX F3 h1
 intro i hi
 exact h2.cell L0 i (by rw[Kv];exact hi)
theorem Rh:U8Types Tryz.prog GC where
 t5:=Tryz.underlying5
 t119:=Tryz.underlying404
 t138:=Tryz.underlying406
 t139:=Tryz.underlying407
theorem MY{W:World}(h:laidMetH Tryz.prog Rows.resumedUptoRow.laid W):eM W:=by
 have h1:laidMet Tryz.prog [(Gu,Rows.laid_axiom_digest_roundWords),("unicode/utf8.acceptRanges",Rows.laid_unicode_utf8_acceptRanges),("unicode/utf8.first",Rows.laid_unicode_utf8_first)] W:=h
 rw[JT,Ni]at h1
 exact utf8Tabs_of_readsT (ρ:=GC) Rh ⟨by kernel_rfl,by kernel_rfl,by kernel_rfl,by kernel_rfl,by kernel_rfl,by kernel_rfl,by kernel_rfl⟩ (Lib.laidMet.reads h1 (.tail _ (.tail _ (.head _)))) (Lib.laidMet.reads h1 (.tail _ (.head _)))
theorem one_le{H:Type}(d:DataW H):1≤Rows.uptoBulk d:=by
 cases d with
 | lit l=>cases l<;>simp[Rows.uptoBulk]
 | nil=>simp[Rows.uptoBulk]
 | ptr d=>simp[Rows.uptoBulk]
 | slice elems spare=>simp[Rows.uptoBulk]
 | agg parts=>simp[Rows.uptoBulk]
 | iface t d=>simp[Rows.uptoBulk]
 | map entries=>simp[Rows.uptoBulk]
 | held h=>simp[Rows.uptoBulk]
theorem length_le{H:Type}(l:List (DataW H)):l.length≤Rows.uptoBulkAll l:=by
 induction l with
 | nil=>simp[Rows.uptoBulkAll]
 | cons x r ih=>have:=one_le x;simp only[Rows.uptoBulkAll,List.length_cons];omega
theorem Qi{H:Type}{d0 d1 d2:DataW H}(hk:Rows.uptoSmall H [d0,d1,d2]=true):Rows.uptoBulk d1+Rows.uptoBulk d2≤1048576:=by
 have h:Rows.uptoBulkAll [d0,d1,d2]≤1048576:=of_decide_eq_true hk
 simp only[Rows.uptoBulkAll]at h
 omega
theorem Dl{H:Type}{es sp:List (DataW H)}:es.length≤Rows.uptoBulk (.slice es sp:DataW H):=by
 have:=length_le es
 simp only[Rows.uptoBulk]
 omega
theorem Np(H:Type)(enc:TypeId×Value→H)(W:World)(base:Nat)(args:Array Value)(ds gs:List (DataW H))(before:List MemPlace)
 (DW:∀(j:Nat) t v,Tryz.f7.params[j]?=some t→args[j]?=some v→Value.okWide Tryz.prog W .any base t v)
 (hW:DataW.Whole enc Tryz.prog Tryz.f7.params.toList Rows.resumedSpec.vars false W args.toList ds gs before)(hk:Rows.uptoSmall H (ds++gs)=true)(hL:laidMetH Tryz.prog Rows.resumedUptoRow.laid W):
 Calls Tryz.prog 7 args W fun e W'=>∃v,e=.returned v∧Rows.resumedSpec.post enc Tryz.prog Tryz.f7 false true false false W args v W':=by
 have SS:=hW
 obtain⟨p,q,EC,hV,rfl,Sr,DE⟩:=hW
 have hA:DataW.TrodAll enc Tryz.prog W 0 (fun _=>true) true Tryz.f7.params.toList args.toList ds p:=EC
 rw[Tryz.params7]at hA DW
 obtain⟨v0,vs0,d0,ds0,p0,q0,ags,rfl,rfl,h0,r0⟩:=trodAll_cons hA
 obtain⟨v1,vs1,d1,ds1,p1,q1,rfl,rfl,rfl,h1,r1⟩:=trodAll_cons r0
 obtain⟨v2,vs2,d2,ds2,p2,q2,rfl,rfl,rfl,h2,r2⟩:=trodAll_cons r1
 obtain⟨rfl,rfl,rfl⟩:=trodAll_nil r2
 obtain rfl:args=#[v0,v1,v2]:=by cases args;simp_all
 obtain⟨rfl,rfl⟩:=trodVars_none hV
 obtain⟨b0,n0,c0,rfl⟩:=okWide_slice Tryz.underlying25 (DW 0 25 v0 rfl rfl)
 obtain⟨b1,n1,c1,rfl⟩:=okWide_slice Tryz.underlying26 (DW 1 26 v1 rfl rfl)
 obtain⟨b2,n2,c2,rfl⟩:=okWide_slice Tryz.underlying26 (DW 2 26 v2 rfl rfl)
 have h0k:=h0
 have h1k:=h1
 have h2k:=h2
 obtain⟨aeG,Z1⟩:=h0
 obtain⟨Xf,OJ⟩:=h1
 obtain⟨Zg,Jn⟩:=h2
 have ff:Rows.uptoBulk d1+Rows.uptoBulk d2≤1048576:=by
  rw[List.append_nil]at hk
  exact Qi hk
 have hsl:n1≤Rows.uptoBulk d1:=by
  have aaW:DataW.trod enc Tryz.prog W 0 (fun _=>true) true Xf 26 [.slice b1 n1 c1]=some (d1,p1):=OJ
  rcases vJ Tryz.underlying26 aaW with h9 | ⟨es,sp,e9,l9⟩
  · omega
  · have e9':d1=.slice es sp:=e9
    rw[e9',←l9]
    exact Dl
 have x7:n2≤Rows.uptoBulk d2:=by
  have aa2:DataW.trod enc Tryz.prog W 0 (fun _=>true) true Zg 26 [.slice b2 n2 c2]=some (d2,p2):=Jn
  rcases vJ Tryz.underlying26 aa2 with h9 | ⟨es,sp,e9,l9⟩
  · omega
  · have e9':d2=.slice es sp:=e9
    rw[e9',←l9]
    exact Dl
 obtain⟨ad,n,c,l,e0,hR⟩:=Og Z1
 obtain⟨sd,sn,sc,sl,e1,hS⟩:=DP OJ
 obtain⟨td,tn,tc,tl,e2,hT⟩:=DP Jn
 simp[Value.cells]at e0 e1 e2
 obtain⟨rfl,rfl,rfl⟩:=e0
 obtain⟨rfl,rfl,rfl⟩:=e1
 obtain⟨rfl,rfl,rfl⟩:=e2
 clear EC Z1 OJ Jn
 simp only[List.append_nil]at SS
 have aG:∀x∈p0++(p1++p2),x.block<W.heap.size:=fun x hx=>SS.lt x (by simpa using hx)
 refine(BN K W b0 n0 c0 l hR b1 n1 c1 sl hS b2 n2 c2 tl hT (by rw[hS.len,hT.len];omega) (UX hL) (MY hL)).mono fun e W' ⟨he,hg⟩=> ?_
 subst he
 have s0:DataW.Trod enc Tryz.prog W' 0 (fun b=>decide (b<W.heap.size)) true 25 (.slice b0 n0 c0) d0 p0:=
  WideElems.Trod_stays laidOut (by kernel_rfl) (of_decide_eq_true (by kernel_rfl)) h0k (fun x hx=>hg.same (aG x (by simp[hx]))) (fun x hx=>by simpa using aG x (by simp[hx]))
 have s1:DataW.Trod enc Tryz.prog W' 0 (fun b=>decide (b<W.heap.size)) true 26 (.slice b1 n1 c1) d1 p1:=
  WideElems.Trod_stays laidOut (by kernel_rfl) (of_decide_eq_true (by kernel_rfl)) h1k (fun x hx=>hg.same (aG x (by simp[hx]))) (fun x hx=>by simpa using aG x (by simp[hx]))
 have s2:DataW.Trod enc Tryz.prog W' 0 (fun b=>decide (b<W.heap.size)) true 26 (.slice b2 n2 c2) d2 p2:=
  WideElems.Trod_stays laidOut (by kernel_rfl) (of_decide_eq_true (by kernel_rfl)) h2k (fun x hx=>hg.same (aG x (by simp[hx]))) (fun x hx=>by simpa using aG x (by simp[hx]))
 exact⟨_,rfl,_,_,_,[],_,[],SS,trodAll_cons_mk (shut_bool Tryz.underlying4 _) trodAll_mk0,trodAll_cons_mk s0 (trodAll_cons_mk s1 (trodAll_cons_mk s2 trodAll_mk0)),rfl,hg.frame _,fun h=>by cases h⟩
def sS (P : Program) (os : Os) : World :=
 let w0:=World.holding P os ⟨#[],#[],[]⟩
 let put (h:Array Obj) (g:Nat) (cs:Array Value):Array Obj:=h.modify g fun
  | .cells _ t frozen=>.cells cs t frozen
  | o=>o
 let h1:=put w0.heap 0 (vw.map fun z=>Value.int .u32 z).toArray
 let h2:=put h1 3 ((List.range 16).flatMap fun i=>[Value.int .u8 (Lib.accLo i),Value.int .u8 (Lib.accHi i)]).toArray
 let h3:=put h2 2 (Lib.firstTab.map fun z=>Value.int .u8 z).toArray
 {w0 with heap:=h3}
theorem O4(os:Os):laidMet Tryz.prog Rows.resumedUptoRow.laid ((sS Tryz.prog os).forCall (fun _ _=>0) ⟨#[],#[.slice none 0 0,.slice none 0 0,.slice none 0 0],[]⟩).memory:=
 laidMet_of_run' 8 (by kernel_rfl) (by kernel_rfl)
theorem reads(os:Os){H:Type}(enc:TypeId×Value→H):∃places,DataW.whole enc Tryz.prog ((sS Tryz.prog os).forCall (fun _ _=>0) ⟨#[],#[.slice none 0 0,.slice none 0 0,.slice none 0 0],[]⟩).memory Tryz.f7.params.toList Rows.resumedSpec.vars false #[Value.slice none 0 0,Value.slice none 0 0,Value.slice none 0 0].toList 8=some ([.nil,.nil,.nil],[],places):=
 ⟨[],by kernel_rfl⟩
theorem lifted(os:Os)(started:os.Started)(H:Type)(enc:TypeId×Value→H)(F:Stop.Interp):
 ReturnsInHanded {} Tryz.checked os 7 .any ((Rows.OpenSpec.upto Rows.resumedSpec).preRow enc Tryz.prog Tryz.f7 Rows.resumedUptoRow.domain false Rows.resumedUptoRow.laid) (((Rows.OpenSpec.upto Rows.resumedSpec).at F).post enc Tryz.prog Tryz.f7 false true false false):=by
 obtain⟨places,hx⟩:=reads os enc
 refine returnsInHanded_of_row (C:=Tryz.checked) (s:=Rows.OpenSpec.upto Rows.resumedSpec) own started (by kernel_rfl) Tryz.func7
  (witness_row_at (enc:=enc) (C:=Tryz.checked) false (sS Tryz.prog os) #[.slice none 0 0,.slice none 0 0,.slice none 0 0] rfl (by kernel_rfl) (by kernel_rfl) (by kernel_rfl)
    (OpenSpec.preRow_of_cond 8 hx (by kernel_rfl) (fun k hk=>by cases hk;kernel_rfl) (by kernel_rfl) (O4 os))) ?_
 intro W base args ds gs before DW hW _ W6 _ hL _ _
 exact Np H enc W base args ds gs before DW hW (W6 _ rfl) hL
theorem said:Rows.ResumedUptoSaid:=
 OpenClaim.holds_of_cond 7 Tryz.f7 rfl rfl rfl rfl rfl rfl rfl ⟨rfl,rfl,rfl,rfl,rfl⟩ rfl rfl rfl rfl rfl (by kernel_rfl) Tryz.func7 wY
  (of_decide_eq_true (by kernel_rfl)) (by unfold Func.isWrapper;first | (rw[if_pos (by decide+kernel)];kernel_rfl) | (rw[if_neg (by decide+kernel)];exact⟨rfl,rfl⟩))
  (fun os started H enc _ F=>by rw[OpenClaim.pre_eq_preRow];exact lifted os started H enc F)
theorem plain(f:FuncId)(fn:Func)(hf:Tryz.pinned.checked.prog.funcNamed Rows.resumedUptoRow.func=some f)(Cj:Tryz.pinned.checked.prog.funcs[f]?=some fn):
 false=Tryz.pinned.checked.prog.looks []∧∀(j:Nat) t,fn.params[j]?=some t→Tryz.pinned.checked.prog.wantsStandIn t=false:=by
 obtain rfl:f=7:=Option.some.inj ((show Tryz.prog.funcNamed Rows.resumedUptoRow.func=some 7 by kernel_rfl).symm.trans hf) |>.symm
 obtain rfl:fn=Tryz.f7:=(Option.some.inj (Tryz.func7.symm.trans Cj)).symm
 refine⟨by kernel_rfl,fun j t ht=> ?_⟩
 rw[Tryz.params7]at ht
 have hm:t=25∨t=26:=by simpa using Array.mem_of_getElem? ht
 rcases hm with rfl | rfl
 · exact(show Tryz.prog.wantsStandIn 25=false by kernel_rfl)
 · exact(show Tryz.prog.wantsStandIn 26=false by kernel_rfl)
theorem card:Rows.ResumedUptoCardSaid:=
 Claim7.holds_tied_plain_at .later [] _ _ _ _ said (fun _ h=>by cases h) (by kernel_rfl) (fun _ h=>by cases h) resumedUpto_row_tie rfl ⟨rfl,rfl⟩ (by kernel_rfl) rfl plain (by kernel_rfl)
end resumed
section
theorem resumed_holds:Rows.ResumedUptoCardSaid:=resumed.card
end
end Go.Proofs.YtdmicblafmhflaaGreatDoor

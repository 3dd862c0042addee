/- The card of Holds: whatever a program's text and a script are, of a bulk up to the given bound, every Check, New, Apply, Ask and All of the script is answered as the document's reference answers it, and every list that came out stays its owner's. Condition: that bound, and the tables as the program's text lays them. -/
import Derived.Test.YtdmicblafmhflaaGreatDoorC19
import Derived.Test.YtdmicblafmhflaaGreatDoorC20
import Derived.Test.YtdmicblafmhflaaGreatDoorCards
import Derived.Test.YtdmicblafmhflaaGreatDoorTie
import Derived.ProofKit
import Derived.OpenShut
import Derived.WideKeyArgs
import Derived.Deep.DeepHandedRow
import Derived.Lib.LaidTab
import Derived.Lib.LaidU8T
set_option linter.unusedSimpArgs false
set_option linter.unusedVariables false
set_option maxRecDepth 100000
namespace Go.Proofs.YtdmicblafmhflaaGreatDoor
open Go.Proofs.Tryz
variable{H:Type}
namespace held
open Go.ChangeShapes Go.WideShapes Go.ChangeAt Go.RowKit
open Go.ChangeMaps (open_string shut_string)
theorem own:ownKnob prog.godebug=none:=by kernel_rfl
theorem laidOut:laidOutB prog=true:=by kernel_rfl
def nm(i:Nat):String:=(Rows.holdsUptoRow.laid.getD i ("",.nil)).1
theorem Qg:prog.globalNamed (nm 2)=some 0:=by kernel_rfl
theorem IJ:(prog.globals[0]?).map (·.type)=some 234:=by kernel_rfl
theorem JE:prog.cellsOf 234=64:=by kernel_rfl
theorem QE:prog.cellsOf 228=1:=by kernel_rfl
theorem ajk:prog.globalNamed "internal/strconv.uint64pow10" =some 4:=by kernel_rfl
theorem Oq:(prog.globals[4]?).map (·.type)=some 425:=by kernel_rfl
theorem PH:prog.cellsOf 425=20:=by kernel_rfl
theorem OY:prog.cellsOf 285=1:=by kernel_rfl
def V7(d:DataW Unit):List Int:=match d with
 | .agg l=>l.map λx=>match x with
  | .lit (.int _ z)=>z
  | _=>0
 | _=>[]
def wS:List Int:=V7 Rows.laid_axiom_digest_roundWords
theorem PR:(Rows.laid_axiom_digest_roundWords:DataW Unit)=Lib.tabData .u32 wS:=by kernel_rfl
theorem Mv:wS.length=64:=by kernel_rfl
theorem Yg:(Rows.laid_internal_strconv_uint64pow10:DataW Unit)=Lib.tabData .u64 Lib.pow10Tab:=by kernel_rfl
theorem LL:(Rows.laid_unicode_utf8_acceptRanges:DataW Unit)=Lib.acceptData:=by kernel_rfl
theorem Q8:Rows.laid_unicode_utf8_first=Lib.firstData:=by kernel_rfl
def K:Nat->Int:=λi=>wS.getD i 0
theorem pF{W:World}{name:String}{k:IntKind}{q:List Int}{g:Nat}{t e:TypeId}{n:Nat}
 (A:prog.globalNamed name=some g)(u:(prog.globals[g]?).map (·.type)=some t)(y:prog.underlying t=some (.array n e))(B:prog.underlying e=some (.int k))(i:prog.cellsOf e=1)(D:prog.cellsOf t=n)
 (h:Lib.VarReads prog W name (Lib.tabData k q)):Lib.TabIs prog W name k q:=by
 obtain⟨E,t',cs,fuel,p,x,w,j,hd⟩:=h;obtain rfl:=adR (A.symm.trans x);obtain rfl:=adR (u.symm.trans w);unfold Lib.TabIs;rw[j,<-Lib.cells_of_tab y B i D hd]
section
variable {W:World}
theorem sr(h:laidMetH prog Rows.holdsUptoRow.laid W)(i:Nat)(q:i<6):Lib.VarReads prog W (nm i) (Rows.holdsUptoRow.laid.getD i ("",.nil)).2:=by
 have e:laidMet prog Rows.holdsUptoRow.laid W:=h;refine Lib.laidMet.reads e ?_;have j:Rows.holdsUptoRow.laid.length=6:=by kernel_rfl
 unfold nm;rw[ada,AS (by omega)];exact IN _
theorem W7(h:laidMetH prog Rows.holdsUptoRow.laid W):Dg.EA W K:=by
 have e:Lib.VarReads prog W (nm 2) Rows.laid_axiom_digest_roundWords:=sr h 2 (by decide);rw[PR]at e;have q:=pF Qg IJ Tryz.underlying234 Tryz.underlying228 QE JE e;intro i j;exact q.cell Qg i (by rw[Mv];exact j)
theorem X9(h:laidMetH prog Rows.holdsUptoRow.laid W):KX W:=by
 have e:Lib.VarReads prog W "internal/strconv.uint64pow10" Rows.laid_internal_strconv_uint64pow10:=sr h 3 (by decide);rw[Yg]at e;exact pF ajk Oq Tryz.underlying425 Tryz.underlying285 OY PH e
theorem T6:U8Types prog JS where
 t5:=adY
 t119:=Tryz.underlying404
 t138:=Tryz.underlying406
 t139:=Tryz.underlying407
theorem QJ(h:laidMetH prog Rows.holdsUptoRow.laid W):gJ W:=by
 have i:Lib.VarReads prog W "unicode/utf8.acceptRanges" Rows.laid_unicode_utf8_acceptRanges:=sr h 4 (by decide);have e:Lib.VarReads prog W "unicode/utf8.first" Rows.laid_unicode_utf8_first:=sr h 5 (by decide);rw[LL]at i;rw[Q8]at e;exact utf8Tabs_of_readsT (ρ:=JS) T6 ⟨by kernel_rfl,by kernel_rfl,by kernel_rfl,by kernel_rfl,by kernel_rfl,by kernel_rfl,by kernel_rfl⟩ e i
end
theorem one_le(d:DataW H):1<=Rows.uptoBulk d:=by
 cases d with
 | lit l=>cases l<;>simp[Rows.uptoBulk]
 | nil=>simp[Rows.uptoBulk]
 | ptr d=>simp[Rows.uptoBulk]
 | slice elems spare=>simp[Rows.uptoBulk]
 | agg parts=>simp[Rows.uptoBulk]
 | iface t d=>simp[Rows.uptoBulk]
 | map entries=>simp[Rows.uptoBulk]
 | held h=>simp[Rows.uptoBulk]
theorem Ks(l:List (DataW H)):Rows.uptoBulkAll l=(l.map Rows.uptoBulk).sum:=by
 induction l with
 | nil=>rfl
 | cons x r ih=>simp only[Rows.uptoBulkAll,abn,aee,ih]
theorem bulk:abf (Rows.uptoBulk (H:=H)) where
 str:=λl=>by simp[Rows.uptoBulk]
 one:=one_le
 slice:=λes e=>by rw[<-Ks];simp only[Rows.uptoBulk];omega
 agg:=λl=>by rw[<-Ks];simp only[Rows.uptoBulk];omega
theorem SU{e:DataW H}{l:List UInt8}(i:Rows.uptoSmall H [.lit (.string l),e]=true):l.length<=1048576/\Rows.uptoBulk e<=1048576:=by
 have h:Rows.uptoBulkAll [.lit (.string l),e]<=1048576:=aei i;simp only[Rows.uptoBulkAll,Rows.uptoBulk]at h;omega
theorem Ru(H:Type)(enc:TypeId×Value->H)(W:World)(base:Nat)(args:Array Value)(A gs:List (DataW H))(before:List MemPlace)
 (D:∀(j:Nat) t v,Tryz.f3.params[j]?=some t->args[j]?=some v->Value.okWide prog W .any base t v)
 (U:DataW.Whole enc prog Tryz.f3.params.toList Rows.holdsSpec.vars false W args.toList A gs before)(N:Rows.uptoSmall H (A++gs)=true)(w:laidMetH prog Rows.holdsUptoRow.laid W):
 Calls prog 3 args W λe W'=>∃v,e=.returned v/\Rows.holdsSpec.post enc prog Tryz.f3 false true false false W args v W':=by
 have i:=U;obtain⟨p,q,M,hV,rfl,KE,Hd⟩:=U;have V:DataW.TrodAll enc prog W 0 (λ_=>true) true Tryz.f3.params.toList args.toList A p:=M;rw[Tryz.params3]at V D;obtain⟨F,vs0,d0,ds0,p0,q0,UH,rfl,rfl,h0,r0⟩:=trodAll_cons V;obtain⟨E,vs1,d1,ds1,J,q1,rfl,rfl,rfl,X,r1⟩:=trodAll_cons r0;obtain⟨rfl,rfl,rfl⟩:=trodAll_nil r1;obtain rfl:args=#[F,E]:=by cases args;simp_all
 obtain⟨rfl,rfl⟩:=trodVars_none hV;obtain⟨B,rfl,rfl,rfl,w0⟩:=open_string abK (D 0 9 F rfl rfl) h0;obtain⟨b1,n1,c1,rfl⟩:=okWide_slice Tryz.underlying22 (D 1 22 E rfl rfl);have y:=X;obtain⟨akA,B4⟩:=X;have Y:B.data.toList.length<=1048576/\Rows.uptoBulk d1<=1048576:=by
  rw[aby]at N;exact SU N
 obtain⟨sd,sc,I,Z,hS⟩:=TW bulk B4 Y.2;simp[Value.cells]at Z;obtain⟨rfl,rfl,rfl⟩:=Z;clear M B4;simp only[aby]at i;have aL:∀x∈J,x.block<W.heap.size:=λx u=>i.lt x (by simpa using u);have cp:B.size<=1048576:=by
  have:=Y.1;simpa using this
 refine(Jc K W (W7 w) (QJ w) (X9 w) B cp b1 c1 I hS).mono λe W' ⟨he,O⟩=>?_;subst he;have s1:DataW.Trod enc prog W' 0 (λb=>decide (b<W.heap.size)) true 22 (.slice b1 I.length c1) d1 J:=
  WideElems.Trod_stays laidOut (by kernel_rfl) (aei (by kernel_rfl)) y (λx u=>O.same (aL x u)) (λx u=>by simpa using aL x u)
 exact⟨_,rfl,_,_,_,[],_,[],i,trodAll_cons_mk (shut_bool Tryz.underlying4 _) trodAll_mk0,trodAll_cons_mk (shut_string abK w0) (trodAll_cons_mk s1 trodAll_mk0),rfl,O.frame _,λh=>by cases h⟩
def tM(P:Program)(os:Os):World:=
 let w0:=World.holding P os ⟨#[],#[],[]⟩
 let put (h:Array Obj) (g:Nat) (cs:Array Value):Array Obj:=h.modify g fun
  | .cells _ t frozen=>.cells cs t frozen
  | o=>o
 let h1:=put w0.heap 0 (wS.map λz=>Value.int .u32 z).toArray
 let h2:=put h1 3 ((List.range 16).flatMap λi=>[Value.int .u8 (Lib.accLo i),Value.int .u8 (Lib.accHi i)]).toArray
 let h3:=put h2 2 (Lib.firstTab.map λz=>Value.int .u8 z).toArray
 let h4:=put h3 5 ((V7 Rows.laid_math_bits_deBruijn32tab).map λz=>Value.int .u8 z).toArray
 let h5:=put h4 6 ((V7 Rows.laid_math_bits_deBruijn64tab).map λz=>Value.int .u8 z).toArray
 let h6:=put h5 4 (Lib.pow10Tab.map λz=>Value.int .u64 z).toArray
 {w0 with heap:=h6}
theorem PD(os:Os):laidMet prog Rows.holdsUptoRow.laid ((tM prog os).forCall (λ_ _=>0) ⟨#[],#[.string ByteArray.empty,.slice none 0 0],[]⟩).memory:=
 laidMet_of_run' 8 (by kernel_rfl) (by kernel_rfl)
theorem reads(os:Os)(enc:TypeId×Value->H):∃places,DataW.whole enc prog ((tM prog os).forCall (λ_ _=>0) ⟨#[],#[.string ByteArray.empty,.slice none 0 0],[]⟩).memory Tryz.f3.params.toList Rows.holdsSpec.vars false #[Value.string ByteArray.empty,Value.slice none 0 0].toList 8=some ([.lit (.string []),.nil],[],places):=
 ⟨[],by kernel_rfl⟩
theorem lifted(os:Os)(started:os.Started)(H:Type)(enc:TypeId×Value->H)(F:Stop.Interp):
 ReturnsInHanded {} Tryz.checked os 3 .any ((Rows.OpenSpec.upto Rows.holdsSpec).preRow enc prog Tryz.f3 Rows.holdsUptoRow.domain false Rows.holdsUptoRow.laid) (((Rows.OpenSpec.upto Rows.holdsSpec).at F).post enc prog Tryz.f3 false true false false):=by
 obtain⟨places,i⟩:=reads os enc;refine returnsInHanded_of_row (C:=Tryz.checked) (s:=Rows.OpenSpec.upto Rows.holdsSpec) own started (by kernel_rfl) func3
  (witness_row_at (enc:=enc) (C:=Tryz.checked) false (tM prog os) #[.string ByteArray.empty,.slice none 0 0] rfl (by kernel_rfl) (by kernel_rfl) (by kernel_rfl)
    (OpenSpec.preRow_of_cond 8 i (by kernel_rfl) (λk j=>by cases j;kernel_rfl) (by kernel_rfl) (PD os))) ?_
 intro W base args u gs before w q _ e _ t _ _;exact Ru H enc W base args u gs before w q (e _ rfl) t
theorem said:Rows.HoldsUptoSaid:=
 OpenClaim.holds_of_cond 3 Tryz.f3 rfl rfl rfl rfl rfl rfl rfl ⟨rfl,rfl,rfl,rfl,rfl⟩ rfl rfl rfl rfl rfl (by kernel_rfl) func3 CV
  (aei (by kernel_rfl)) (by unfold Func.isWrapper;first | (rw[aa3 (by decide+kernel)];kernel_rfl) | (rw[aaD (by decide+kernel)];exact⟨rfl,rfl⟩))
  (λos started H enc _ F=>by rw[OpenClaim.pre_eq_preRow];exact lifted os started H enc F)
theorem plain(f:FuncId)(e:Func)(q:Tryz.pinned.checked.prog.funcNamed Rows.holdsUptoRow.func=some f)(u:Tryz.pinned.checked.prog.funcs[f]?=some e):
 false=Tryz.pinned.checked.prog.looks []/\∀(j:Nat) t,e.params[j]?=some t->Tryz.pinned.checked.prog.wantsStandIn t=false:=by
 obtain rfl:f=3:=adR ((show prog.funcNamed Rows.holdsUptoRow.func=some 3 by kernel_rfl).symm.trans q) |>.symm;obtain rfl:e=Tryz.f3:=(adR (func3.symm.trans u)).symm;refine⟨by kernel_rfl,λj t i=>?_⟩;rw[Tryz.params3]at i;have hm:t=9\/t=22:=by simpa using Array.mem_of_getElem? i
 rcases hm with rfl | rfl
 ·exact(show prog.wantsStandIn 9=false by kernel_rfl)
 ·exact(show prog.wantsStandIn 22=false by kernel_rfl)
theorem card:Rows.HoldsUptoCardSaid:=
 Claim7.holds_tied_plain_at .later [] _ _ _ _ said (λ_ h=>by cases h) (by kernel_rfl) (λ_ h=>by cases h) holdsUpto_row_tie rfl ⟨rfl,rfl⟩ (by kernel_rfl) rfl plain (by kernel_rfl)
end held
theorem holds_holds:Rows.HoldsUptoCardSaid:=held.card

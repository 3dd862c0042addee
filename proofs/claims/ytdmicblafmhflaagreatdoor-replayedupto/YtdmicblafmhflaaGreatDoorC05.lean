/- The parser: term. -/
import Derived.Test.YtdmicblafmhflaaGreatDoorC04
import Derived.Deep.RegionWith
import Derived.Deep.LoopGhost
set_option linter.unusedSimpArgs false
set_option linter.unusedVariables false
set_option maxHeartbeats 2000000
namespace Go.Proofs.YtdmicblafmhflaaGreatDoor
section
open Go.RowKit
theorem dd.alloc{w:World}{pb:Nat}{tv:Value}{aa:List Ax.Tok}{nx:Nat}(h:dd w pb tv aa nx)(o:Obj):dd (w.alloc o) pb tv aa nx:=
 h.below ((Below.refl _ _).alloc (Nat.le_refl _) o)
theorem dd.row{w w':World}{pb:Nat}{tv:Value}{aa:List Ax.Tok}{nx:Nat}{row:Option Nat}{e':TypeId}(h:dd w pb tv aa nx)(hg:w.grownBy w' row)
 (hr:∀k,row=some k→∃cur fz,w.heap[k]?=some (.cells cur e' fz))(h1:205≠e')(h2:210≠e'):dd w' pb tv aa nx:=by
 refine⟨?_,cX h.2.1 hg hr h2,h.2.2⟩
 rw[hg.block pb (lt_of_heap h.1) ?_]
 · exact h.1
 · intro e1
   obtain⟨cur,fz,hk⟩:=hr pb e1.symm
   rw[h.1]at hk
   simp at hk
   exact h1 hk.2.1
theorem heap_setCell_same{w:World}{k off:Nat}{cur:Array Value}{t:TypeId}{fz:Nat×Nat}(h:w.heap[k]?=some (.cells cur t fz))(v:Value):(w.setCell ⟨k,off,none⟩ v).heap[k]?=some (.cells (cur.setIfInBounds off v) t fz):=by
 simp only[World.setCell,Array.getElem?_modify,h]
 simp
theorem ab{w:World}{k:Nat}{cur:Array Value}{t:TypeId}{fz:Nat×Nat}(h:w.heap[k]?=some (.cells cur t fz))(j:Nat):w.cell? ⟨k,j,none⟩=cur[j]?:=by
 rw[cell_of_row _ k j _ _ _ h]
theorem af{w:World}{k:Nat}{cur:Array Value}{t:TypeId}(h:w.heap[k]?=some (.cells cur t (0,0)))(j:Nat):w.frozen? ⟨k,j,none⟩=false:=by
 simp[World.frozen?,h]
theorem dJ{w w1 w2:World}{pb:Nat}{tv:Value}{aa:List Ax.Tok}{nx:Nat}{o1 o2:Obj}(h:dd w pb tv aa nx)(a8:Below (w.heap.size+1) (w.alloc o1) w1)(dM:(w1.alloc o2).grownBy w2 (some pb)):
 w2.heap[w1.heap.size]?=some o2∧w2.heap[w.heap.size]?=some o1∧w.grownBy w2 (some pb)∧w.heap.size<w1.heap.size∧w1.heap.size<w2.heap.size:=by
 have hp:=lt_of_heap h.1
 have kV:=a8.size
 have zX:=dM.size
 simp only[World.size_alloc]at kV zX
 refine⟨?_, ?_, ?_,by omega,by omega⟩
 · rw[dM.block _ (by simp) (by simp;omega)]
   exact heap_alloc_new _ _
 · rw[dM.block _ (by simp;omega) (by simp;omega),Below.heap_alloc _ _ _ (by omega),a8.block _ (by omega)]
   exact heap_alloc_new _ _
 · refine aq ?_ dM
   refine aq ?_ (World.grownBy_alloc _ _ _)
   refine aq (World.grownBy_alloc w o1 _) (aV (a8.mono (by simp)) _)
theorem qi{w w2:World}{pb:Nat}{tv:Value}{aa:List Ax.Tok}{nx k:Nat}{a b:Value}(r2:w2.heap[k]?=some (.cells #[a,b] 310 (0,0)))(c d:Value)(gw:w.grownBy w2 (some pb))(hp:dd w2 pb tv aa nx)(hk:w.heap.size≤k):
 ((w2.setCell ⟨k,0,none⟩ c).setCell ⟨k,1,none⟩ d).heap[k]?=some (.cells #[c,d] 310 (0,0))∧w.grownBy ((w2.setCell ⟨k,0,none⟩ c).setCell ⟨k,1,none⟩ d) (some pb)∧dd ((w2.setCell ⟨k,0,none⟩ c).setCell ⟨k,1,none⟩ d) pb tv aa nx:=by
 have h0:=heap_setCell_same (off:=0) r2 c
 have h1:=heap_setCell_same (off:=1) h0 d
 refine⟨by rw[h1];rfl,cY (cY gw hk c) hk d, ?_⟩
 refine(hp.row (grownBy_setCell _ _) (e':=310) (fun j hj=> ?_) (by decide) (by decide)).row (grownBy_setCell _ _) (e':=310) (fun j hj=> ?_) (by decide) (by decide)
 · cases hj;exact⟨_,_,r2⟩
 · cases hj;exact⟨_,_,h0⟩
theorem JV(w:World)(pb:Nat)(tv:Value)(aa:List Ax.Tok)(nx:Nat)(h:dd w pb tv aa nx)(t:Ax.Tok)(ht:Hid (aa[nx]?=some t))(he:(t.kind==2)=true):
 Calls Tryz.prog 283 #[.pointer (some ⟨pb,0,none⟩)] w fun e w'=>e=.returned (.tuple #[.agg #[.int .i64 0,.string t.text],.bool true])∧dd w' pb tv aa (nx+1)∧w.grownBy w' (some pb):=by
 have ye:=lt_of_heap h.1
 go_enter Tryz.func283,Tryz.ntmps283
 go_wp2_with (first | (go_at_call 105;refine(dS _ _ _ _ _ (h.alloc _) _ ht).mono ?_;rintro e w1 ⟨rfl,a8⟩;rw[World.size_alloc]at a8;have fS:=((h.alloc (.cells #[.int .i64 0,.string ⟨#[]⟩] 310)).below (by rw[World.size_alloc];exact a8))) | (go_at_call_of 223 (Value.int IntKind.i64 2);refine(de _ _ _ _ _ (fS.alloc _) _ ht _ (by decide) he).mono ?_;rintro e w2 ⟨rfl,iz,dM⟩;obtain⟨t2,r2,GF,R0,Sc⟩:=dJ h a8 dM;have c2:=ab t2 2;have f0:=af r2 0;have f1:=af r2 1;have k0:=ab r2 0;have k1:=ab r2 1;simp only[List.getElem?_toArray,List.getElem?_cons_zero,List.getElem?_cons_succ]at c2 k0 k1))
 obtain⟨hu,gu,pu⟩:=qi r2 (.int .i64 0) (.string t.text) GF iz (Nat.le_refl _)
 exact bodyPost_ret (v:=.tuple #[.agg #[.int .i64 0,.string t.text],.bool true]) (by simp[results,Tryz.results283,go_sem,ab hu]) rfl ⟨rfl,pu,gu⟩
theorem Mw(w:World)(pb:Nat)(tv:Value)(aa:List Ax.Tok)(nx:Nat)(h:dd w pb tv aa nx)(t:Ax.Tok)(ht:Hid (aa[nx]?=some t))(he:(t.kind==2)=false)(hf:(t.kind==3)=true):
 Calls Tryz.prog 283 #[.pointer (some ⟨pb,0,none⟩)] w fun e w'=>e=.returned (.tuple #[.agg #[.int .i64 1,.string t.text],.bool true])∧dd w' pb tv aa (nx+1)∧w.grownBy w' (some pb):=by
 have ye:=lt_of_heap h.1
 go_enter Tryz.func283,Tryz.ntmps283
 go_wp2_with (first | (go_at_call 105;refine(dS _ _ _ _ _ (h.alloc _) _ ht).mono ?_;rintro e w1 ⟨rfl,a8⟩;rw[World.size_alloc]at a8;have fS:=((h.alloc (.cells #[.int .i64 0,.string ⟨#[]⟩] 310)).below (by rw[World.size_alloc];exact a8))) | (go_at_call_of 223 (Value.int IntKind.i64 2);refine(gf _ _ _ _ _ (fS.alloc _) _ ht _ he).mono ?_;rintro e w2 ⟨rfl,cM⟩;have iz:=(fS.alloc (.cells #[.int .i64 t.kind,.int .i64 t.at_,.string t.text] 210)).below cM) | (go_at_call_of 223 (Value.int IntKind.i64 3);refine(de _ _ _ _ _ iz _ ht _ (by decide) hf).mono ?_;rintro e w3 ⟨rfl,vk,nP⟩;have dM:=aq (aV cM (some pb)) nP;obtain⟨t2,r2,GF,R0,Sc⟩:=dJ h a8 dM;have c2:=ab t2 2;have f0:=af r2 0;have f1:=af r2 1;have k0:=ab r2 0;have k1:=ab r2 1;simp only[List.getElem?_toArray,List.getElem?_cons_zero,List.getElem?_cons_succ]at c2 k0 k1))
 obtain⟨hu,gu,pu⟩:=qi r2 (.int .i64 1) (.string t.text) GF vk (Nat.le_refl _)
 exact bodyPost_ret (v:=.tuple #[.agg #[.int .i64 1,.string t.text],.bool true]) (by simp[results,Tryz.results283,go_sem,ab hu]) rfl ⟨rfl,pu,gu⟩
theorem I3(w:World)(pb:Nat)(tv:Value)(aa:List Ax.Tok)(nx:Nat)(h:dd w pb tv aa nx)(t:Ax.Tok)(ht:Hid (aa[nx]?=some t))(he:(t.kind==2)=false)(hf:(t.kind==3)=false):
 Calls Tryz.prog 283 #[.pointer (some ⟨pb,0,none⟩)] w fun e w'=>e=.returned (.tuple #[.agg #[.int .i64 0,.string ⟨#[]⟩],.bool false])∧dd w' pb tv aa nx∧w.grownBy w' (some pb):=by
 have ye:=lt_of_heap h.1
 go_enter Tryz.func283,Tryz.ntmps283
 go_wp2_with (first | (go_at_call 105;refine(dS _ _ _ _ _ (h.alloc _) _ ht).mono ?_;rintro e w1 ⟨rfl,a8⟩;rw[World.size_alloc]at a8;have fS:=((h.alloc (.cells #[.int .i64 0,.string ⟨#[]⟩] 310)).below (by rw[World.size_alloc];exact a8))) | (go_at_call_of 223 (Value.int IntKind.i64 2);refine(gf _ _ _ _ _ (fS.alloc _) _ ht _ he).mono ?_;rintro e w2 ⟨rfl,cM⟩;have iz:=(fS.alloc (.cells #[.int .i64 t.kind,.int .i64 t.at_,.string t.text] 210)).below cM) | (go_at_call_of 223 (Value.int IntKind.i64 3);refine(gf _ _ _ _ _ iz _ ht _ hf).mono ?_;rintro e w3 ⟨rfl,eA⟩;have vk:=iz.below eA;have dM:=aq (aV cM (some pb)) (aV eA (some pb));obtain⟨t2,r2,GF,R0,Sc⟩:=dJ h a8 dM;have c2:=ab t2 2;have f0:=af r2 0;have f1:=af r2 1;have k0:=ab r2 0;have k1:=ab r2 1;simp only[List.getElem?_toArray,List.getElem?_cons_zero,List.getElem?_cons_succ]at c2 k0 k1))
 obtain⟨hu,gu,pu⟩:=qi r2 (.int .i64 0) (.string ⟨#[]⟩) GF vk (Nat.le_refl _)
 exact bodyPost_ret (v:=.tuple #[.agg #[.int .i64 0,.string ⟨#[]⟩],.bool false]) (by simp[results,Tryz.results283,go_sem,ab hu]) rfl ⟨rfl,pu,gu⟩
end
/- The parser: terms. -/
section
open Go.RowKit
theorem CH(w:World)(pb:Nat)(tv:Value)(aa:List Ax.Tok)(nx:Nat)(h:dd w pb tv aa nx)(t:Ax.Tok)(ht:Hid (aa[nx]?=some t))(hk:Hid (t.kind=2∨t.kind=3)):
 Calls Tryz.prog 283 #[.pointer (some ⟨pb,0,none⟩)] w fun e w'=>e=.returned (.tuple #[.agg #[.int .i64 (t.kind-2),.string t.text],.bool true])∧dd w' pb tv aa (nx+1)∧w.grownBy w' (some pb):=by
 rcases hk.out with e | e
 · rw[show t.kind-2=0 by omega];exact JV w pb tv aa nx h t ht (by simp[e])
 · rw[show t.kind-2=1 by omega];exact Mw w pb tv aa nx h t ht (by simp[e]) (by simp[e])
def cg(l:List Ax.Term):List Value:=l.flatMap fun t=>[.int .i64 t.kind,.string t.text]
theorem oC(l:List Ax.Term)(t:Ax.Term):cg (l++[t])=cg l++[.int .i64 t.kind,.string t.text]:=by simp[cg]
theorem Tryz.M0:(Tryz.prog.info? 310).map (fun i=>(i.zero,i.size,i.bytes))=some (some (.agg #[.int .i64 0,.string ByteArray.empty]),2,24):=by kernel_rfl
theorem oR{w w1 w2:World}{pb:Nat}{row:Option Nat}(h:w.grownBy w1 (some pb))(hg:w1.grownBy w2 row)(hr:∀k,row=some k→w.heap.size≤k):w.grownBy w2 (some pb):=
 ⟨hg.os.trans h.os,hg.tape.trans h.tape,hg.output.trans h.output,Nat.le_trans h.size hg.size,fun k hk cA=>(hg.block k (Nat.lt_of_lt_of_le hk h.size) (fun e=>by have:=hr k e.symm;omega)).trans (h.block k hk cA)⟩
theorem bj{w:World}{b:Nat}{e:TypeId}{size:Nat}{v:Value}{n:Nat}{xs:List Value}(h:w.ownsRow b e size v n xs):∀k,v.ownBlock=some k→∃cur fz,w.heap[k]?=some (.cells cur e fz):=by
 intro k hk
 rcases h.2 with⟨rfl,_⟩ | ⟨g,cap,cur,rfl,_,hh,_⟩
 · simp[Value.ownBlock]at hk
 · simp[Value.ownBlock]at hk;subst hk;exact⟨_,_,hh⟩
theorem cV{w w':World}{pb b:Nat}{tv v:Value}{aa:List Ax.Tok}{nx:Nat}{e:TypeId}{size n:Nat}{xs:List Value}(h:w.ownsRow b e size v n xs)(hp:dd w pb tv aa nx)(hg:w.grownBy w' (some pb))(cA:e≠205):w'.ownsRow b e size v n xs:=
 cX h hg (e':=205) (fun k hk=>by cases hk;exact⟨_,_,hp.1⟩) cA
theorem eL(w:World)(o:Obj)(t:TypeId)(xs:List Value):∀(j:Nat) (u:Value),xs[j]?=some u→((w.alloc o).alloc (.cells xs.toArray t)).cell? ((⟨w.heap.size+1,0,none⟩:Addr).add j)=some u:=by
 have:=mq (w.alloc o) t xs
 rw[World.size_alloc]at this
 exact this
theorem uL{w w1 w2:World}{pb:Nat}{tv v:Value}{aa:List Ax.Tok}{nx n:Nat}{xs:List Value}{o1 o2:Obj}(bq:w1.ownsRow w.heap.size 310 2 v n xs)(fS:dd w1 pb tv aa nx)(hg:w.grownBy w1 (some pb))
 (bG:((w1.alloc o1).alloc o2).grownBy w2 v.ownBlock):dd w2 pb tv aa nx∧w.grownBy w2 (some pb):=
 ⟨((fS.alloc o1).alloc o2).row bG (bj ((bq.alloc o1).alloc o2)) (by decide) (by decide),
  oR (grownBy_alloc (grownBy_alloc hg _) _) bG (fun k hk=>(bq.lt k hk).1)⟩
def ON(w wr:World)(pb:Nat)(tv:Value)(aa:List Ax.Tok)(v:Value)(nx k:Nat)(acc:List Ax.Term)(R:Option (List Ax.Term)×Nat):Prop:=
 dd wr pb tv aa nx∧wr.ownsRow w.heap.size 310 2 v acc.length (cg acc)∧w.grownBy wr (some pb)∧acc.length≤nx∧aa.length≤nx+k∧Ax.bY aa k nx acc=R
theorem Ap(w:World)(pb:Nat)(tv:Value)(aa:List Ax.Tok)(nx:Nat)(h:dd w pb tv aa nx):
 Calls Tryz.prog 260 #[.pointer (some ⟨pb,0,none⟩)] w fun e w'=>dd w' pb tv aa (Ax.bY aa aa.length nx []).2∧w.grownBy w' (some pb)∧
  ((∃v ts,e=.returned (.tuple #[v,.bool true])∧(Ax.bY aa aa.length nx []).1=some ts∧w'.ownsRow w.heap.size 310 2 v ts.length (cg ts))∨
   (e=.returned (.tuple #[.slice none 0 0,.bool false])∧(Ax.bY aa aa.length nx []).1=none)):=by
 obtain⟨i0,hi,ew,dZ,dX⟩:=info_parts Tryz.M0
 generalize hR:Ax.bY aa aa.length nx []=R
 have ye:=lt_of_heap h.1
 go_enter Tryz.func260,Tryz.ntmps260
 go_wp2_with fail
 go_loopg [4] aa.length (fun k v wr=>∃(i:Nat) (acc:List Ax.Term),ON w wr pb tv aa v i k acc R)
 case atStart=>exact⟨nx,[],h,World.ownsRow_nil _ _ _ _,hO _ _,Nat.zero_le _,by omega,hR⟩
 case round=>
  obtain⟨i,acc,hp,al,hg,PH,hlen,hr⟩:=hrel
  have aE:=hp.2.2.1
  have hle:=hp.2.2.2.1
  have cE:=hg.size
  cases gk with
  | zero=>omega
  | succ k=>
  obtain⟨t,LF⟩:∃t,aa[i]?=some t:=⟨_,List.getElem?_eq_getElem aE⟩
  have ht:Hid (aa[i]?=some t):=LF
  have Ay:Hid (Ax.bY aa (k+1) i acc=R):=hr
  clear LF hr hR
  by_cases hk:t.kind=2∨t.kind=3
  · have ZR:Hid (t.kind=2∨t.kind=3):=hk
    clear hk
    have xG:i+1<aa.length:=by
     obtain⟨_,e⟩:=rk ht.out
     have:=ZR.out
     exact hp.2.2.2.2.next aE (by rw[e];omega) (by rw[e];omega)
    obtain⟨t',LF⟩:∃t,aa[i+1]?=some t:=⟨_,List.getElem?_eq_getElem xG⟩
    have nV:Hid (aa[i+1]?=some t'):=LF
    clear LF
    have ZO:Hid (Ax.jR aa i=(some ⟨t.kind-2,t.text⟩,i+1)):=Ax.wi ht.out ZR.out
    cases h6:(t'.kind==6)
    case true=>
     have mw:Hid (Ax.bY aa (k+1) i acc=Ax.bY aa k (i+1+1) (acc++[⟨t.kind-2,t.text⟩])):=Ax.tF ZO.out (by rw[Ax.cP nV.out];simpa using h6)
     go_wp2_with (first | (go_at_call 283;refine(CH _ _ _ _ _ hp _ ht ZR).mono ?_;rintro e w1 ⟨rfl,fS,fy⟩;have bq:=cV al hp fy (by decide);have kV:=fy.size) | (at_builtin;refine wpList_append_own _ rfl (.tmp 14) (.tmp 16) 217 rfl w.heap.size 310 i0 _ 2 24 Tryz.underlying217 hi ew dZ dX rfl (by decide) _ _ _ rfl ((bq.alloc _).alloc _) ⟨w1.heap.size+1,0,none⟩ 1 1 [.int .i64 (t.kind-2),.string t.text] rfl rfl (eL _ _ _ _) (by simp[Value.oneCell']) (by unfold maxLen;omega) (by omega) (by simp;omega) ?_;intro v2 w2 aR bG _;obtain⟨iz,dM⟩:=uL bq fS (aq hg fy) bG;clear bG bq fS) | (go_at_call 223;refine(de _ _ _ _ _ iz _ nV _ (by decide) h6).mono ?_;rintro e w3 ⟨rfl,vk,nP⟩;have fB:=cV aR iz nP (by decide)))
     go_roundg k
     case measure=>omega
     case rel=>
      refine⟨i+1+1,acc++[⟨t.kind-2,t.text⟩],vk, ?_,aq dM nP,by simp;omega,by omega,mw.out.symm.trans Ay.out⟩
      rw[oC];simpa using fB
    case false=>
     have mw:Hid (Ax.bY aa (k+1) i acc=(some (acc++[⟨t.kind-2,t.text⟩]),i+1)):=Ax.oJ ZO.out (by rw[Ax.cP nV.out];simpa using h6)
     go_wp2_with (first | (go_at_call 283;refine(CH _ _ _ _ _ hp _ ht ZR).mono ?_;rintro e w1 ⟨rfl,fS,fy⟩;have bq:=cV al hp fy (by decide);have kV:=fy.size) | (at_builtin;refine wpList_append_own _ rfl (.tmp 14) (.tmp 16) 217 rfl w.heap.size 310 i0 _ 2 24 Tryz.underlying217 hi ew dZ dX rfl (by decide) _ _ _ rfl ((bq.alloc _).alloc _) ⟨w1.heap.size+1,0,none⟩ 1 1 [.int .i64 (t.kind-2),.string t.text] rfl rfl (eL _ _ _ _) (by simp[Value.oneCell']) (by unfold maxLen;omega) (by omega) (by simp;omega) ?_;intro v2 w2 aR bG _;obtain⟨iz,dM⟩:=uL bq fS (aq hg fy) bG;clear bG bq fS) | (go_at_call 223;refine(gf _ _ _ _ _ iz _ nV _ h6).mono ?_;rintro e w3 ⟨rfl,eA⟩;have fB:=ae aR eA))
     go_ret2
     have e:=Ay.out.symm.trans mw.out
     refine⟨by rw[e];exact iz.below eA,aq dM (aV eA _),.inl ⟨_,acc++[⟨t.kind-2,t.text⟩],rfl,by rw[e], ?_⟩⟩
     rw[oC];simpa using fB
  · have PZ:Hid (Ax.bY aa (k+1) i acc=(none,i)):=Ax.EE (Ax.Fo ht.out hk)
    have k2:(t.kind==2)=false:=by simp;omega
    have k3:(t.kind==3)=false:=by simp;omega
    clear hk
    go_wp2_with (go_at_call 283;refine(I3 _ _ _ _ _ hp _ ht k2 k3).mono ?_;rintro e w1 ⟨rfl,fS,fy⟩)
    go_ret2
    have e:=Ay.out.symm.trans PZ.out
    exact⟨by rw[e];exact fS.alloc _,grownBy_alloc (aq hg fy) _,.inr ⟨rfl,by rw[e]⟩⟩
theorem GB(w:World)(pb:Nat)(tv:Value)(aa:List Ax.Tok)(nx j:Nat)(h:dd w pb tv aa nx)(hR:Hid (Ax.bY aa aa.length nx []=(none,j))):
 Calls Tryz.prog 260 #[.pointer (some ⟨pb,0,none⟩)] w fun e w'=>e=.returned (.tuple #[.slice none 0 0,.bool false])∧dd w' pb tv aa j∧w.grownBy w' (some pb):=by
 refine(Ap w pb tv aa nx h).mono ?_
 rintro e w' ⟨hp,hg,hc⟩
 rw[hR.out]at hp hc
 rcases hc with⟨v,ts,_,hn,_⟩ | ⟨rfl,_⟩
 · simp at hn
 · exact⟨rfl,hp,hg⟩
theorem xk(w:World)(pb:Nat)(tv:Value)(aa:List Ax.Tok)(nx j:Nat)(ts:List Ax.Term)(h:dd w pb tv aa nx)(hR:Hid (Ax.bY aa aa.length nx []=(some ts,j))):
 Calls Tryz.prog 260 #[.pointer (some ⟨pb,0,none⟩)] w fun e w'=>∃ad c,e=.returned (.tuple #[.slice ad ts.length c,.bool true])∧dd w' pb tv aa j∧w.grownBy w' (some pb)∧w'.ownsRow w.heap.size 310 2 (.slice ad ts.length c) ts.length (cg ts):=by
 refine(Ap w pb tv aa nx h).mono ?_
 rintro e w' ⟨hp,hg,hc⟩
 rw[hR.out]at hp hc
 rcases hc with⟨v,ts',rfl,hn,al⟩ | ⟨_,hn⟩
 · simp at hn
   subst hn
   obtain⟨a,c,rfl⟩:∃a c,v=.slice a ts.length c:=by
    rcases al.2 with⟨rfl,e⟩ | ⟨g,cap,cur,rfl,_⟩
    · rw[e];exact⟨none,0,rfl⟩
    · exact⟨_,_,rfl⟩
   exact⟨a,c,rfl,hp,hg,al⟩
 · simp at hn
end
/- The parser: atom. -/
section
open Go.RowKit
theorem ah{w:World}{b:Nat}{e:TypeId}{size:Nat}{v:Value}{n:Nat}{xs:List Value}(h:w.ownsRow b e size v n xs):∃a c,v=.slice a n c:=by
 rcases h.2 with⟨rfl,rfl⟩ | ⟨g,cap,cur,rfl,_⟩
 · exact⟨none,0,rfl⟩
 · exact⟨_,_,rfl⟩
theorem gT{w w2:World}{pb:Nat}{tv:Value}{aa:List Ax.Tok}{nx k:Nat}{a b c:Value}(r2:w2.heap[k]?=some (.cells #[a,b,c] 219 (0,0)))(x y z:Value)(gw:w.grownBy w2 (some pb))(hp:dd w2 pb tv aa nx)(hk:w.heap.size≤k):
 (((w2.setCell ⟨k,0,none⟩ x).setCell ⟨k,1,none⟩ y).setCell ⟨k,2,none⟩ z).heap[k]?=some (.cells #[x,y,z] 219 (0,0))∧w.grownBy (((w2.setCell ⟨k,0,none⟩ x).setCell ⟨k,1,none⟩ y).setCell ⟨k,2,none⟩ z) (some pb)∧dd (((w2.setCell ⟨k,0,none⟩ x).setCell ⟨k,1,none⟩ y).setCell ⟨k,2,none⟩ z) pb tv aa nx:=by
 have h0:=heap_setCell_same (off:=0) r2 x
 have h1:=heap_setCell_same (off:=1) h0 y
 have h2:=heap_setCell_same (off:=2) h1 z
 refine⟨by rw[h2];rfl,cY (cY (cY gw hk x) hk y) hk z, ?_⟩
 refine((hp.row (grownBy_setCell _ _) (e':=219) (fun j hj=> ?_) (by decide) (by decide)).row (grownBy_setCell _ _) (e':=219) (fun j hj=> ?_) (by decide) (by decide)).row (grownBy_setCell _ _) (e':=219) (fun j hj=> ?_) (by decide) (by decide)
 · cases hj;exact⟨_,_,r2⟩
 · cases hj;exact⟨_,_,h0⟩
 · cases hj;exact⟨_,_,h1⟩
theorem T8(w:World)(pb:Nat)(tv:Value)(aa:List Ax.Tok)(nx:Nat)(h:dd w pb tv aa nx)(t:Ax.Tok)(ht:Hid (aa[nx]?=some t))(he:(t.kind==2)=false):
 Calls Tryz.prog 222 #[.pointer (some ⟨pb,0,none⟩)] w fun e w'=>e=.returned (.tuple #[.agg #[.int .i64 0,.string ⟨#[]⟩,.slice none 0 0],.bool false])∧dd w' pb tv aa nx∧w.grownBy w' (some pb):=by
 have ye:=lt_of_heap h.1
 go_enter Tryz.func222,Tryz.ntmps222
 go_wp2_with (first | (go_at_call 105;refine(dS _ _ _ _ _ (h.alloc _) _ ht).mono ?_;rintro e w1 ⟨rfl,a8⟩;rw[World.size_alloc]at a8;have fS:=((h.alloc (.cells #[.int .i64 0,.string ⟨#[]⟩,.slice none 0 0] 219)).below (by rw[World.size_alloc];exact a8)).alloc (.cells #[.int .i64 t.kind,.int .i64 t.at_,.string t.text] 210)) | (go_at_call_of 223 (Value.int IntKind.i64 2);refine(gf _ _ _ _ _ fS _ ht _ he).mono ?_;rintro e w2 ⟨rfl,cM⟩;have iz:=fS.below cM;have dM:=(aV cM (some pb));obtain⟨t2,r2,GF,XW,Yl⟩:=dJ h a8 dM;have Sj:=af r2 0;have f12:=af r2 1;have f22:=af r2 2;have C1:=ab r2 0;have xD:=ab r2 1;have Yx:=ab r2 2;have EV:=ab t2 1;have Yk:=ab t2 2;simp only[List.getElem?_toArray,List.getElem?_cons_zero,List.getElem?_cons_succ]at EV Yk C1 xD Yx))
 obtain⟨hu,gu,pu⟩:=gT r2 (.int .i64 0) (.string ⟨#[]⟩) (.slice none 0 0) GF iz (Nat.le_refl _)
 exact bodyPost_ret (v:=.tuple #[.agg #[.int .i64 0,.string ⟨#[]⟩,.slice none 0 0],.bool false]) (by simp[results,Tryz.results222,go_sem,ab hu]) rfl ⟨rfl,pu,gu⟩
theorem U6(w:World)(pb:Nat)(tv:Value)(aa:List Ax.Tok)(nx:Nat)(h:dd w pb tv aa nx)(t:Ax.Tok)(ht:Hid (aa[nx]?=some t))(he:(t.kind==2)=true)(t':Ax.Tok)(nV:Hid (aa[nx+1]?=some t'))(h4:(t'.kind==4)=false):
 Calls Tryz.prog 222 #[.pointer (some ⟨pb,0,none⟩)] w fun e w'=>e=.returned (.tuple #[.agg #[.int .i64 0,.string ⟨#[]⟩,.slice none 0 0],.bool false])∧dd w' pb tv aa (nx+1)∧w.grownBy w' (some pb):=by
 have ye:=lt_of_heap h.1
 go_enter Tryz.func222,Tryz.ntmps222
 go_wp2_with (first | (go_at_call 105;refine(dS _ _ _ _ _ (h.alloc _) _ ht).mono ?_;rintro e w1 ⟨rfl,a8⟩;rw[World.size_alloc]at a8;have fS:=((h.alloc (.cells #[.int .i64 0,.string ⟨#[]⟩,.slice none 0 0] 219)).below (by rw[World.size_alloc];exact a8)).alloc (.cells #[.int .i64 t.kind,.int .i64 t.at_,.string t.text] 210)) | (go_at_call_of 223 (Value.int IntKind.i64 2);refine(de _ _ _ _ _ fS _ ht _ (by decide) he).mono ?_;rintro e w2 ⟨rfl,iz,Gi⟩;have dM:=Gi) | (go_at_call_of 223 (Value.int IntKind.i64 4);refine(gf _ _ _ _ _ iz _ nV _ h4).mono ?_;rintro e w3 ⟨rfl,eA⟩;have vk:=iz.below eA;have nP:=aq dM (aV eA (some pb));obtain⟨t3,r3,Xx,VF,US⟩:=dJ h a8 nP;have QH:=af r3 0;have f13:=af r3 1;have f23:=af r3 2;have Cc:=ab r3 0;have vr:=ab r3 1;have Vt:=ab r3 2;have vh:=ab t3 1;have TZ:=ab t3 2;simp only[List.getElem?_toArray,List.getElem?_cons_zero,List.getElem?_cons_succ]at vh TZ Cc vr Vt))
 obtain⟨hu,gu,pu⟩:=gT r3 (.int .i64 0) (.string ⟨#[]⟩) (.slice none 0 0) Xx vk (Nat.le_refl _)
 exact bodyPost_ret (v:=.tuple #[.agg #[.int .i64 0,.string ⟨#[]⟩,.slice none 0 0],.bool false]) (by simp[results,Tryz.results222,go_sem,ab hu]) rfl ⟨rfl,pu,gu⟩
theorem U3(w:World)(pb:Nat)(tv:Value)(aa:List Ax.Tok)(nx:Nat)(h:dd w pb tv aa nx)(t:Ax.Tok)(ht:Hid (aa[nx]?=some t))(he:(t.kind==2)=true)(t':Ax.Tok)(nV:Hid (aa[nx+1]?=some t'))(h4:(t'.kind==4)=true)(j:Nat)(hR:Hid (Ax.bY aa aa.length (nx+1+1) []=(none,j))):
 Calls Tryz.prog 222 #[.pointer (some ⟨pb,0,none⟩)] w fun e w'=>e=.returned (.tuple #[.agg #[.int .i64 0,.string ⟨#[]⟩,.slice none 0 0],.bool false])∧dd w' pb tv aa j∧w.grownBy w' (some pb):=by
 have ye:=lt_of_heap h.1
 go_enter Tryz.func222,Tryz.ntmps222
 go_wp2_with (first | (go_at_call 105;refine(dS _ _ _ _ _ (h.alloc _) _ ht).mono ?_;rintro e w1 ⟨rfl,a8⟩;rw[World.size_alloc]at a8;have fS:=((h.alloc (.cells #[.int .i64 0,.string ⟨#[]⟩,.slice none 0 0] 219)).below (by rw[World.size_alloc];exact a8)).alloc (.cells #[.int .i64 t.kind,.int .i64 t.at_,.string t.text] 210)) | (go_at_call_of 223 (Value.int IntKind.i64 2);refine(de _ _ _ _ _ fS _ ht _ (by decide) he).mono ?_;rintro e w2 ⟨rfl,iz,Gi⟩;have dM:=Gi) | (go_at_call_of 223 (Value.int IntKind.i64 4);refine(de _ _ _ _ _ iz _ nV _ (by decide) h4).mono ?_;rintro e w3 ⟨rfl,vk,tD⟩;have nP:=aq dM tD) | (go_at_call 260;refine(GB _ _ _ _ _ _ vk hR).mono ?_;rintro e w4 ⟨rfl,C2,xT⟩;have ue:=aq nP xT;obtain⟨t4,r4,M9,K6,Jr⟩:=dJ h a8 ue;have Py:=af r4 0;have f14:=af r4 1;have f24:=af r4 2;have zC:=ab r4 0;have tT:=ab r4 1;have JE:=ab r4 2;have Iw:=ab t4 1;have JA:=ab t4 2;simp only[List.getElem?_toArray,List.getElem?_cons_zero,List.getElem?_cons_succ]at Iw JA zC tT JE))
 obtain⟨hu,gu,pu⟩:=gT r4 (.int .i64 0) (.string ⟨#[]⟩) (.slice none 0 0) M9 C2 (Nat.le_refl _)
 exact bodyPost_ret (v:=.tuple #[.agg #[.int .i64 0,.string ⟨#[]⟩,.slice none 0 0],.bool false]) (by simp[results,Tryz.results222,go_sem,ab hu]) rfl ⟨rfl,pu,gu⟩
theorem UF(w:World)(pb:Nat)(tv:Value)(aa:List Ax.Tok)(nx:Nat)(h:dd w pb tv aa nx)(t:Ax.Tok)(ht:Hid (aa[nx]?=some t))(he:(t.kind==2)=true)(t':Ax.Tok)(nV:Hid (aa[nx+1]?=some t'))(h4:(t'.kind==4)=true)(j:Nat)(ts:List Ax.Term)(hR:Hid (Ax.bY aa aa.length (nx+1+1) []=(some ts,j)))(t3:Ax.Tok)(wT:Hid (aa[j]?=some t3))(h5:(t3.kind==5)=false):
 Calls Tryz.prog 222 #[.pointer (some ⟨pb,0,none⟩)] w fun e w'=>∃x y ad n c,e=.returned (.tuple #[.agg #[.int .i64 x,.string y,.slice ad n c],.bool false])∧dd w' pb tv aa j∧w.grownBy w' (some pb):=by
 have ye:=lt_of_heap h.1
 go_enter Tryz.func222,Tryz.ntmps222
 go_wp2_with (first | (go_at_call 105;refine(dS _ _ _ _ _ (h.alloc _) _ ht).mono ?_;rintro e w1 ⟨rfl,a8⟩;rw[World.size_alloc]at a8;have fS:=((h.alloc (.cells #[.int .i64 0,.string ⟨#[]⟩,.slice none 0 0] 219)).below (by rw[World.size_alloc];exact a8)).alloc (.cells #[.int .i64 t.kind,.int .i64 t.at_,.string t.text] 210)) | (go_at_call_of 223 (Value.int IntKind.i64 2);refine(de _ _ _ _ _ fS _ ht _ (by decide) he).mono ?_;rintro e w2 ⟨rfl,iz,Gi⟩;have dM:=Gi) | (go_at_call_of 223 (Value.int IntKind.i64 4);refine(de _ _ _ _ _ iz _ nV _ (by decide) h4).mono ?_;rintro e w3 ⟨rfl,vk,tD⟩;have nP:=aq dM tD) | (go_at_call 260;refine(xk _ _ _ _ _ _ _ vk hR).mono ?_;rintro e w4 ⟨ad,c,rfl,C2,xT,Sn⟩;have ue:=aq nP xT;obtain⟨t4,r4,M9,K6,Jr⟩:=dJ h a8 ue;have Py:=af r4 0;have f14:=af r4 1;have f24:=af r4 2;have zC:=ab r4 0;have tT:=ab r4 1;have JE:=ab r4 2;have Iw:=ab t4 1;have JA:=ab t4 2;simp only[List.getElem?_toArray,List.getElem?_cons_zero,List.getElem?_cons_succ]at Iw JA zC tT JE))
 go_region_with (go_at_call 223;refine(gf _ pb tv aa j (by exact C2) _ wT _ h5).mono ?_;rintro e w5 ⟨rfl,la⟩;have N5:=dd.below (by exact C2) la;have hg5:=aq (fJ ue) (aV la (some pb));obtain⟨t5,r5,gw5,abz,adf⟩:=dJ h a8 hg5;have f05:=af r5 0;have f15:=af r5 1;have f25:=af r5 2;have Qd:=ab r5 0;have F3:=ab r5 1;have k25:=ab r5 2;have c15:=ab t5 1;have c25:=ab t5 2;simp only[List.getElem?_toArray,List.getElem?_cons_zero,List.getElem?_cons_succ]at c15 c25 Qd F3 k25)
 all_goals (go_wp2_with fail)
 all_goals (obtain⟨hu,gu,pu⟩:=gT r5 (.int .i64 t.at_) (.string t.text) (.slice ad ts.length c) gw5 N5 (Nat.le_refl _))
 all_goals (exact bodyPost_ret (v:=.tuple #[.agg #[.int .i64 t.at_,.string t.text,.slice ad ts.length c],.bool false]) (by simp[results,Tryz.results222,go_sem,ab hu]) rfl ⟨_,_,_,_,_,rfl,pu,gu⟩)
end
/- The parser: atom, whole. -/
section
open Go.RowKit
theorem vl{w2:World}{k:Nat}{a b c:Value}{T:TypeId}(r2:w2.heap[k]?=some (.cells #[a,b,c] T (0,0)))(x y z:Value){bs:Nat}{e:TypeId}{size:Nat}{v:Value}{n:Nat}{xs:List Value}(h:w2.ownsRow bs e size v n xs)(cA:e≠T):
 (((w2.setCell ⟨k,0,none⟩ x).setCell ⟨k,1,none⟩ y).setCell ⟨k,2,none⟩ z).ownsRow bs e size v n xs:=by
 have h0:=heap_setCell_same (off:=0) r2 x
 have h1:=heap_setCell_same (off:=1) h0 y
 refine cX (cX (cX h (grownBy_setCell _ _) (e':=T) (fun j hj=> ?_) cA) (grownBy_setCell _ _) (e':=T) (fun j hj=> ?_) cA) (grownBy_setCell _ _) (e':=T) (fun j hj=> ?_) cA
 · cases hj;exact⟨_,_,r2⟩
 · cases hj;exact⟨_,_,h0⟩
 · cases hj;exact⟨_,_,h1⟩
theorem TD(w:World)(pb:Nat)(tv:Value)(aa:List Ax.Tok)(nx:Nat)(h:dd w pb tv aa nx)(t:Ax.Tok)(ht:Hid (aa[nx]?=some t))(he:(t.kind==2)=true)(t':Ax.Tok)(nV:Hid (aa[nx+1]?=some t'))(h4:(t'.kind==4)=true)(j:Nat)(ts:List Ax.Term)(hR:Hid (Ax.bY aa aa.length (nx+1+1) []=(some ts,j)))(t3:Ax.Tok)(wT:Hid (aa[j]?=some t3))(h5:(t3.kind==5)=true):
 Calls Tryz.prog 222 #[.pointer (some ⟨pb,0,none⟩)] w fun e w'=>∃ad c,e=.returned (.tuple #[.agg #[.int .i64 t.at_,.string t.text,.slice ad ts.length c],.bool true])∧dd w' pb tv aa (j+1)∧w.grownBy w' (some pb)∧w'.ownsRow w.heap.size 310 2 (.slice ad ts.length c) ts.length (cg ts):=by
 have ye:=lt_of_heap h.1
 go_enter Tryz.func222,Tryz.ntmps222
 go_wp2_with (first | (go_at_call 105;refine(dS _ _ _ _ _ (h.alloc _) _ ht).mono ?_;rintro e w1 ⟨rfl,a8⟩;rw[World.size_alloc]at a8;have fS:=((h.alloc (.cells #[.int .i64 0,.string ⟨#[]⟩,.slice none 0 0] 219)).below (by rw[World.size_alloc];exact a8)).alloc (.cells #[.int .i64 t.kind,.int .i64 t.at_,.string t.text] 210)) | (go_at_call_of 223 (Value.int IntKind.i64 2);refine(de _ _ _ _ _ fS _ ht _ (by decide) he).mono ?_;rintro e w2 ⟨rfl,iz,Gi⟩;have dM:=Gi) | (go_at_call_of 223 (Value.int IntKind.i64 4);refine(de _ _ _ _ _ iz _ nV _ (by decide) h4).mono ?_;rintro e w3 ⟨rfl,vk,tD⟩;have nP:=aq dM tD) | (go_at_call 260;refine(xk _ _ _ _ _ _ _ vk hR).mono ?_;rintro e w4 ⟨ad,c,rfl,C2,xT,Sn⟩;have ue:=aq nP xT;have abB:=(dJ h a8 nP).2.2.1.size;obtain⟨t4,r4,M9,K6,Jr⟩:=dJ h a8 ue;have Py:=af r4 0;have f14:=af r4 1;have f24:=af r4 2;have zC:=ab r4 0;have tT:=ab r4 1;have JE:=ab r4 2;have Iw:=ab t4 1;have JA:=ab t4 2;simp only[List.getElem?_toArray,List.getElem?_cons_zero,List.getElem?_cons_succ]at Iw JA zC tT JE))
 go_region_with (go_at_call 223;refine(de _ pb tv aa j (by exact C2) _ wT _ (by decide) h5).mono ?_;rintro e w5 ⟨rfl,N5,Zb⟩;have hg5:=aq (fJ ue) Zb;have Ad:=cV (w:=w4.drew) Sn (by exact C2) Zb (by decide);obtain⟨t5,r5,gw5,abz,adf⟩:=dJ h a8 hg5;have f05:=af r5 0;have f15:=af r5 1;have f25:=af r5 2;have Qd:=ab r5 0;have F3:=ab r5 1;have k25:=ab r5 2;have c15:=ab t5 1;have c25:=ab t5 2;simp only[List.getElem?_toArray,List.getElem?_cons_zero,List.getElem?_cons_succ]at c15 c25 Qd F3 k25)
 all_goals (go_wp2_with fail)
 all_goals (obtain⟨hu,gu,pu⟩:=gT r5 (.int .i64 t.at_) (.string t.text) (.slice ad ts.length c) gw5 N5 (Nat.le_refl _))
 all_goals (exact bodyPost_ret (v:=.tuple #[.agg #[.int .i64 t.at_,.string t.text,.slice ad ts.length c],.bool true]) (by simp[results,Tryz.results222,go_sem,ab hu]) rfl ⟨_,_,rfl,pu,gu,aG (vl r5 _ _ _ Ad (by decide)) abB⟩)
theorem CQ(w:World)(pb:Nat)(tv:Value)(aa:List Ax.Tok)(nx:Nat)(h:dd w pb tv aa nx):
 Calls Tryz.prog 222 #[.pointer (some ⟨pb,0,none⟩)] w fun e w'=>dd w' pb tv aa (Ax.b9 aa nx).2∧w.grownBy w' (some pb)∧
  ((∃ad c a,e=.returned (.tuple #[.agg #[.int .i64 a.at_,.string a.pred,.slice ad a.ag.length c],.bool true])∧(Ax.b9 aa nx).1=some a∧w'.ownsRow w.heap.size 310 2 (.slice ad a.ag.length c) a.ag.length (cg a.ag))∨
   (∃x y ad n c,e=.returned (.tuple #[.agg #[.int .i64 x,.string y,.slice ad n c],.bool false])∧(Ax.b9 aa nx).1=none)):=by
 obtain⟨t,ht⟩:∃t,aa[nx]?=some t:=⟨_,List.getElem?_eq_getElem h.2.2.1⟩
 by_cases he:t.kind=2
 case neg=>
  rw[Ax.BU ht he]
  refine(T8 w pb tv aa nx h t ht (by simpa using he)).mono ?_
  rintro e w' ⟨rfl,hp,hg⟩
  exact⟨hp,hg,.inr ⟨_,_,_,_,_,rfl,rfl⟩⟩
 have xG:nx+1<aa.length:=by
  obtain⟨hl,e⟩:=rk ht
  exact h.2.2.2.2.next hl (by rw[e];omega) (by rw[e];omega)
 obtain⟨t',nV⟩:∃t,aa[nx+1]?=some t:=⟨_,List.getElem?_eq_getElem xG⟩
 have BI:=Ax.cP nV
 by_cases h4:t'.kind=4
 case neg=>
  rw[Ax.Il ht he (by rw[BI];exact h4)]
  refine(U6 w pb tv aa nx h t ht (by simpa using he) t' nV (by simpa using h4)).mono ?_
  rintro e w' ⟨rfl,hp,hg⟩
  exact⟨hp,hg,.inr ⟨_,_,_,_,_,rfl,rfl⟩⟩
 have h4k:Ax.aN aa (nx+1)=4:=by rw[BI];exact h4
 have Bt:nx+1+1<aa.length:=by
  obtain⟨hl,e⟩:=rk nV
  exact h.2.2.2.2.next hl (by rw[e];omega) (by rw[e];omega)
 rcases hR:Ax.bY aa aa.length (nx+1+1) []with⟨_ | ts,j⟩
 · rw[Ax.Ic ht he h4k hR]
   refine(U3 w pb tv aa nx h t ht (by simpa using he) t' nV (by simpa using h4) j hR).mono ?_
   rintro e w' ⟨rfl,hp,hg⟩
   exact⟨hp,hg,.inr ⟨_,_,_,_,_,rfl,rfl⟩⟩
 · have hj:j<aa.length:=Ax.py h.2.2.2.2 _ _ _ Bt hR
   obtain⟨t3,wT⟩:∃t,aa[j]?=some t:=⟨_,List.getElem?_eq_getElem hj⟩
   have KS:=Ax.cP wT
   by_cases h5:t3.kind=5
   · rw[Ax.Bg ht he h4k hR (by rw[KS];exact h5)]
     refine(TD w pb tv aa nx h t ht (by simpa using he) t' nV (by simpa using h4) j ts hR t3 wT (by simpa using h5)).mono ?_
     rintro e w' ⟨ad,c,rfl,hp,hg,al⟩
     exact⟨hp,hg,.inl ⟨ad,c,⟨t.at_,t.text,ts⟩,rfl,rfl,al⟩⟩
   · rw[Ax.Ir ht he h4k hR (by rw[KS];exact h5)]
     refine(UF w pb tv aa nx h t ht (by simpa using he) t' nV (by simpa using h4) j ts hR t3 wT (by simpa using h5)).mono ?_
     rintro e w' ⟨x,y,ad,n,c,rfl,hp,hg⟩
     exact⟨hp,hg,.inr ⟨_,_,_,_,_,rfl,rfl⟩⟩
end
end Go.Proofs.YtdmicblafmhflaaGreatDoor

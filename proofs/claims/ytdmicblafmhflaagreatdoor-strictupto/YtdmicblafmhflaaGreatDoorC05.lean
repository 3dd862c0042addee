/- The parser: term. -/
import Derived.Test.YtdmicblafmhflaaGreatDoorC04
import Derived.Deep.RegionWith
import Derived.Deep.LoopGhost
set_option linter.unusedSimpArgs false
set_option linter.unusedVariables false
set_option maxHeartbeats 2000000
namespace Go.Proofs.YtdmicblafmhflaaGreatDoor
section
open Go.RowKit
theorem dg.alloc{w:World}{pb:Nat}{tv:Value}{aa:List Ax.Tok}{nx:Nat}(h:dg w pb tv aa nx)(o:Obj):dg (w.alloc o) pb tv aa nx:=
 h.below ((Below.refl _ _).alloc (Nat.le_refl _) o)
theorem dg.row{w w':World}{pb:Nat}{tv:Value}{aa:List Ax.Tok}{nx:Nat}{row:Option Nat}{e':TypeId}(h:dg w pb tv aa nx)(hg:w.grownBy w' row)
 (hr:∀k,row=some k→∃cur fz,w.heap[k]?=some (.cells cur e' fz))(h1:205≠e')(h2:210≠e'):dg w' pb tv aa nx:=by
 refine⟨?_,cV h.2.1 hg hr h2,h.2.2⟩
 rw[hg.block pb (lt_of_heap h.1) ?_]
 · exact h.1
 · intro e1
   obtain⟨cur,fz,hk⟩:=hr pb e1.symm
   rw[h.1]at hk
   simp at hk
   exact h1 hk.2.1
theorem heap_setCell_same{w:World}{k off:Nat}{cur:Array Value}{t:TypeId}{fz:Nat×Nat}(h:w.heap[k]?=some (.cells cur t fz))(v:Value):(w.setCell ⟨k,off,none⟩ v).heap[k]?=some (.cells (cur.setIfInBounds off v) t fz):=by
 simp only[World.setCell,Array.getElem?_modify,h]
 simp
theorem ab{w:World}{k:Nat}{cur:Array Value}{t:TypeId}{fz:Nat×Nat}(h:w.heap[k]?=some (.cells cur t fz))(j:Nat):w.cell? ⟨k,j,none⟩=cur[j]?:=by
 rw[cell_of_row _ k j _ _ _ h]
theorem ae{w:World}{k:Nat}{cur:Array Value}{t:TypeId}(h:w.heap[k]?=some (.cells cur t (0,0)))(j:Nat):w.frozen? ⟨k,j,none⟩=false:=by
 simp[World.frozen?,h]
theorem dI{w w1 w2:World}{pb:Nat}{tv:Value}{aa:List Ax.Tok}{nx:Nat}{o1 o2:Obj}(h:dg w pb tv aa nx)(bk:Below (w.heap.size+1) (w.alloc o1) w1)(dL:(w1.alloc o2).grownBy w2 (some pb)):
 w2.heap[w1.heap.size]?=some o2∧w2.heap[w.heap.size]?=some o1∧w.grownBy w2 (some pb)∧w.heap.size<w1.heap.size∧w1.heap.size<w2.heap.size:=by
 have hp:=lt_of_heap h.1
 have kW:=bk.size
 have vI:=dL.size
 simp only[World.size_alloc]at kW vI
 refine⟨?_, ?_, ?_,by omega,by omega⟩
 · rw[dL.block _ (by simp) (by simp;omega)]
   exact heap_alloc_new _ _
 · rw[dL.block _ (by simp;omega) (by simp;omega),Below.heap_alloc _ _ _ (by omega),bk.block _ (by omega)]
   exact heap_alloc_new _ _
 · refine al ?_ dL
   refine al ?_ (World.grownBy_alloc _ _ _)
   refine al (World.grownBy_alloc w o1 _) (aT (bk.mono (by simp)) _)
theorem qE{w w2:World}{pb:Nat}{tv:Value}{aa:List Ax.Tok}{nx k:Nat}{a b:Value}(r2:w2.heap[k]?=some (.cells #[a,b] 310 (0,0)))(c d:Value)(gw:w.grownBy w2 (some pb))(hp:dg w2 pb tv aa nx)(hk:w.heap.size≤k):
 ((w2.setCell ⟨k,0,none⟩ c).setCell ⟨k,1,none⟩ d).heap[k]?=some (.cells #[c,d] 310 (0,0))∧w.grownBy ((w2.setCell ⟨k,0,none⟩ c).setCell ⟨k,1,none⟩ d) (some pb)∧dg ((w2.setCell ⟨k,0,none⟩ c).setCell ⟨k,1,none⟩ d) pb tv aa nx:=by
 have h0:=heap_setCell_same (off:=0) r2 c
 have h1:=heap_setCell_same (off:=1) h0 d
 refine⟨by rw[h1];rfl,cX (cX gw hk c) hk d, ?_⟩
 refine(hp.row (grownBy_setCell _ _) (e':=310) (fun j hj=> ?_) (by decide) (by decide)).row (grownBy_setCell _ _) (e':=310) (fun j hj=> ?_) (by decide) (by decide)
 · cases hj;exact⟨_,_,r2⟩
 · cases hj;exact⟨_,_,h0⟩
theorem KU(w:World)(pb:Nat)(tv:Value)(aa:List Ax.Tok)(nx:Nat)(h:dg w pb tv aa nx)(t:Ax.Tok)(ht:Hid (aa[nx]?=some t))(he:(t.kind==2)=true):
 Calls Tryz.prog 283 #[.pointer (some ⟨pb,0,none⟩)] w fun e w'=>e=.returned (.tuple #[.agg #[.int .i64 0,.string t.text],.bool true])∧dg w' pb tv aa (nx+1)∧w.grownBy w' (some pb):=by
 have yB:=lt_of_heap h.1
 go_enter Tryz.func283,Tryz.ntmps283
 go_wp2_with (first | (go_at_call 105;refine(dY _ _ _ _ _ (h.alloc _) _ ht).mono ?_;rintro e w1 ⟨rfl,bk⟩;rw[World.size_alloc]at bk;have fZ:=((h.alloc (.cells #[.int .i64 0,.string ⟨#[]⟩] 310)).below (by rw[World.size_alloc];exact bk))) | (go_at_call_of 223 (Value.int IntKind.i64 2);refine(dm _ _ _ _ _ (fZ.alloc _) _ ht _ (by decide) he).mono ?_;rintro e w2 ⟨rfl,iI,dL⟩;obtain⟨t2,r2,GM,RM,Tp⟩:=dI h bk dL;have c2:=ab t2 2;have f0:=ae r2 0;have f1:=ae r2 1;have k0:=ab r2 0;have k1:=ab r2 1;simp only[List.getElem?_toArray,List.getElem?_cons_zero,List.getElem?_cons_succ]at c2 k0 k1))
 obtain⟨hu,gu,pu⟩:=qE r2 (.int .i64 0) (.string t.text) GM iI (Nat.le_refl _)
 exact bodyPost_ret (v:=.tuple #[.agg #[.int .i64 0,.string t.text],.bool true]) (by simp[results,Tryz.results283,go_sem,ab hu]) rfl ⟨rfl,pu,gu⟩
theorem Pc(w:World)(pb:Nat)(tv:Value)(aa:List Ax.Tok)(nx:Nat)(h:dg w pb tv aa nx)(t:Ax.Tok)(ht:Hid (aa[nx]?=some t))(he:(t.kind==2)=false)(hf:(t.kind==3)=true):
 Calls Tryz.prog 283 #[.pointer (some ⟨pb,0,none⟩)] w fun e w'=>e=.returned (.tuple #[.agg #[.int .i64 1,.string t.text],.bool true])∧dg w' pb tv aa (nx+1)∧w.grownBy w' (some pb):=by
 have yB:=lt_of_heap h.1
 go_enter Tryz.func283,Tryz.ntmps283
 go_wp2_with (first | (go_at_call 105;refine(dY _ _ _ _ _ (h.alloc _) _ ht).mono ?_;rintro e w1 ⟨rfl,bk⟩;rw[World.size_alloc]at bk;have fZ:=((h.alloc (.cells #[.int .i64 0,.string ⟨#[]⟩] 310)).below (by rw[World.size_alloc];exact bk))) | (go_at_call_of 223 (Value.int IntKind.i64 2);refine(gx _ _ _ _ _ (fZ.alloc _) _ ht _ he).mono ?_;rintro e w2 ⟨rfl,cM⟩;have iI:=(fZ.alloc (.cells #[.int .i64 t.kind,.int .i64 t.at_,.string t.text] 210)).below cM) | (go_at_call_of 223 (Value.int IntKind.i64 3);refine(dm _ _ _ _ _ iI _ ht _ (by decide) hf).mono ?_;rintro e w3 ⟨rfl,vj,nB⟩;have dL:=al (aT cM (some pb)) nB;obtain⟨t2,r2,GM,RM,Tp⟩:=dI h bk dL;have c2:=ab t2 2;have f0:=ae r2 0;have f1:=ae r2 1;have k0:=ab r2 0;have k1:=ab r2 1;simp only[List.getElem?_toArray,List.getElem?_cons_zero,List.getElem?_cons_succ]at c2 k0 k1))
 obtain⟨hu,gu,pu⟩:=qE r2 (.int .i64 1) (.string t.text) GM vj (Nat.le_refl _)
 exact bodyPost_ret (v:=.tuple #[.agg #[.int .i64 1,.string t.text],.bool true]) (by simp[results,Tryz.results283,go_sem,ab hu]) rfl ⟨rfl,pu,gu⟩
theorem Lb(w:World)(pb:Nat)(tv:Value)(aa:List Ax.Tok)(nx:Nat)(h:dg w pb tv aa nx)(t:Ax.Tok)(ht:Hid (aa[nx]?=some t))(he:(t.kind==2)=false)(hf:(t.kind==3)=false):
 Calls Tryz.prog 283 #[.pointer (some ⟨pb,0,none⟩)] w fun e w'=>e=.returned (.tuple #[.agg #[.int .i64 0,.string ⟨#[]⟩],.bool false])∧dg w' pb tv aa nx∧w.grownBy w' (some pb):=by
 have yB:=lt_of_heap h.1
 go_enter Tryz.func283,Tryz.ntmps283
 go_wp2_with (first | (go_at_call 105;refine(dY _ _ _ _ _ (h.alloc _) _ ht).mono ?_;rintro e w1 ⟨rfl,bk⟩;rw[World.size_alloc]at bk;have fZ:=((h.alloc (.cells #[.int .i64 0,.string ⟨#[]⟩] 310)).below (by rw[World.size_alloc];exact bk))) | (go_at_call_of 223 (Value.int IntKind.i64 2);refine(gx _ _ _ _ _ (fZ.alloc _) _ ht _ he).mono ?_;rintro e w2 ⟨rfl,cM⟩;have iI:=(fZ.alloc (.cells #[.int .i64 t.kind,.int .i64 t.at_,.string t.text] 210)).below cM) | (go_at_call_of 223 (Value.int IntKind.i64 3);refine(gx _ _ _ _ _ iI _ ht _ hf).mono ?_;rintro e w3 ⟨rfl,eB⟩;have vj:=iI.below eB;have dL:=al (aT cM (some pb)) (aT eB (some pb));obtain⟨t2,r2,GM,RM,Tp⟩:=dI h bk dL;have c2:=ab t2 2;have f0:=ae r2 0;have f1:=ae r2 1;have k0:=ab r2 0;have k1:=ab r2 1;simp only[List.getElem?_toArray,List.getElem?_cons_zero,List.getElem?_cons_succ]at c2 k0 k1))
 obtain⟨hu,gu,pu⟩:=qE r2 (.int .i64 0) (.string ⟨#[]⟩) GM vj (Nat.le_refl _)
 exact bodyPost_ret (v:=.tuple #[.agg #[.int .i64 0,.string ⟨#[]⟩],.bool false]) (by simp[results,Tryz.results283,go_sem,ab hu]) rfl ⟨rfl,pu,gu⟩
end
/- The parser: terms. -/
section
open Go.RowKit
theorem Fa(w:World)(pb:Nat)(tv:Value)(aa:List Ax.Tok)(nx:Nat)(h:dg w pb tv aa nx)(t:Ax.Tok)(ht:Hid (aa[nx]?=some t))(hk:Hid (t.kind=2∨t.kind=3)):
 Calls Tryz.prog 283 #[.pointer (some ⟨pb,0,none⟩)] w fun e w'=>e=.returned (.tuple #[.agg #[.int .i64 (t.kind-2),.string t.text],.bool true])∧dg w' pb tv aa (nx+1)∧w.grownBy w' (some pb):=by
 rcases hk.out with e | e
 · rw[show t.kind-2=0 by omega];exact KU w pb tv aa nx h t ht (by simp[e])
 · rw[show t.kind-2=1 by omega];exact Pc w pb tv aa nx h t ht (by simp[e]) (by simp[e])
def b9(l:List Ax.Term):List Value:=l.flatMap fun t=>[.int .i64 t.kind,.string t.text]
theorem o4(l:List Ax.Term)(t:Ax.Term):b9 (l++[t])=b9 l++[.int .i64 t.kind,.string t.text]:=by simp[b9]
theorem Tryz.Pa:(Tryz.prog.info? 310).map (fun i=>(i.zero,i.size,i.bytes))=some (some (.agg #[.int .i64 0,.string ByteArray.empty]),2,24):=by kernel_rfl
theorem oZ{w w1 w2:World}{pb:Nat}{row:Option Nat}(h:w.grownBy w1 (some pb))(hg:w1.grownBy w2 row)(hr:∀k,row=some k→w.heap.size≤k):w.grownBy w2 (some pb):=
 ⟨hg.os.trans h.os,hg.tape.trans h.tape,hg.output.trans h.output,Nat.le_trans h.size hg.size,fun k hk cL=>(hg.block k (Nat.lt_of_lt_of_le hk h.size) (fun e=>by have:=hr k e.symm;omega)).trans (h.block k hk cL)⟩
theorem cu{w:World}{b:Nat}{e:TypeId}{size:Nat}{v:Value}{n:Nat}{xs:List Value}(h:w.ownsRow b e size v n xs):∀k,v.ownBlock=some k→∃cur fz,w.heap[k]?=some (.cells cur e fz):=by
 intro k hk
 rcases h.2 with⟨rfl,_⟩ | ⟨g,cap,cur,rfl,_,hh,_⟩
 · simp[Value.ownBlock]at hk
 · simp[Value.ownBlock]at hk;subst hk;exact⟨_,_,hh⟩
theorem cY{w w':World}{pb b:Nat}{tv v:Value}{aa:List Ax.Tok}{nx:Nat}{e:TypeId}{size n:Nat}{xs:List Value}(h:w.ownsRow b e size v n xs)(hp:dg w pb tv aa nx)(hg:w.grownBy w' (some pb))(cL:e≠205):w'.ownsRow b e size v n xs:=
 cV h hg (e':=205) (fun k hk=>by cases hk;exact⟨_,_,hp.1⟩) cL
theorem eM(w:World)(o:Obj)(t:TypeId)(xs:List Value):∀(j:Nat) (u:Value),xs[j]?=some u→((w.alloc o).alloc (.cells xs.toArray t)).cell? ((⟨w.heap.size+1,0,none⟩:Addr).add j)=some u:=by
 have:=mv (w.alloc o) t xs
 rw[World.size_alloc]at this
 exact this
theorem uf{w w1 w2:World}{pb:Nat}{tv v:Value}{aa:List Ax.Tok}{nx n:Nat}{xs:List Value}{o1 o2:Obj}(bj:w1.ownsRow w.heap.size 310 2 v n xs)(fZ:dg w1 pb tv aa nx)(hg:w.grownBy w1 (some pb))
 (bx:((w1.alloc o1).alloc o2).grownBy w2 v.ownBlock):dg w2 pb tv aa nx∧w.grownBy w2 (some pb):=
 ⟨((fZ.alloc o1).alloc o2).row bx (cu ((bj.alloc o1).alloc o2)) (by decide) (by decide),
  oZ (grownBy_alloc (grownBy_alloc hg _) _) bx (fun k hk=>(bj.lt k hk).1)⟩
def Oh(w wr:World)(pb:Nat)(tv:Value)(aa:List Ax.Tok)(v:Value)(nx k:Nat)(acc:List Ax.Term)(R:Option (List Ax.Term)×Nat):Prop:=
 dg wr pb tv aa nx∧wr.ownsRow w.heap.size 310 2 v acc.length (b9 acc)∧w.grownBy wr (some pb)∧acc.length≤nx∧aa.length≤nx+k∧Ax.bP aa k nx acc=R
theorem Bm(w:World)(pb:Nat)(tv:Value)(aa:List Ax.Tok)(nx:Nat)(h:dg w pb tv aa nx):
 Calls Tryz.prog 260 #[.pointer (some ⟨pb,0,none⟩)] w fun e w'=>dg w' pb tv aa (Ax.bP aa aa.length nx []).2∧w.grownBy w' (some pb)∧
  ((∃v ts,e=.returned (.tuple #[v,.bool true])∧(Ax.bP aa aa.length nx []).1=some ts∧w'.ownsRow w.heap.size 310 2 v ts.length (b9 ts))∨
   (e=.returned (.tuple #[.slice none 0 0,.bool false])∧(Ax.bP aa aa.length nx []).1=none)):=by
 obtain⟨i0,hi,eX,eP,eA⟩:=info_parts Tryz.Pa
 generalize hR:Ax.bP aa aa.length nx []=R
 have yB:=lt_of_heap h.1
 go_enter Tryz.func260,Tryz.ntmps260
 go_wp2_with fail
 go_loopg [4] aa.length (fun k v wr=>∃(i:Nat) (acc:List Ax.Term),Oh w wr pb tv aa v i k acc R)
 case atStart=>exact⟨nx,[],h,World.ownsRow_nil _ _ _ _,ic _ _,Nat.zero_le _,by omega,hR⟩
 case round=>
  obtain⟨i,acc,hp,aj,hg,PE,hlen,hr⟩:=hrel
  have aC:=hp.2.2.1
  have hle:=hp.2.2.2.1
  have cr:=hg.size
  cases gk with
  | zero=>omega
  | succ k=>
  obtain⟨t,LW⟩:∃t,aa[i]?=some t:=⟨_,List.getElem?_eq_getElem aC⟩
  have ht:Hid (aa[i]?=some t):=LW
  have Bw:Hid (Ax.bP aa (k+1) i acc=R):=hr
  clear LW hr hR
  by_cases hk:t.kind=2∨t.kind=3
  · have hkh:Hid (t.kind=2∨t.kind=3):=hk
    clear hk
    have vU:i+1<aa.length:=by
     obtain⟨_,e⟩:=qV ht.out
     have:=hkh.out
     exact hp.2.2.2.2.next aC (by rw[e];omega) (by rw[e];omega)
    obtain⟨t',LW⟩:∃t,aa[i+1]?=some t:=⟨_,List.getElem?_eq_getElem vU⟩
    have oh:Hid (aa[i+1]?=some t'):=LW
    clear LW
    have TA:Hid (Ax.jE aa i=(some ⟨t.kind-2,t.text⟩,i+1)):=Ax.xM ht.out hkh.out
    cases h6:(t'.kind==6)
    case true=>
     have mK:Hid (Ax.bP aa (k+1) i acc=Ax.bP aa k (i+1+1) (acc++[⟨t.kind-2,t.text⟩])):=Ax.tQ TA.out (by rw[Ax.cZ oh.out];simpa using h6)
     go_wp2_with (first | (go_at_call 283;refine(Fa _ _ _ _ _ hp _ ht hkh).mono ?_;rintro e w1 ⟨rfl,fZ,fA⟩;have bj:=cY aj hp fA (by decide);have kW:=fA.size) | (at_builtin;refine wpList_append_own _ rfl (.tmp 14) (.tmp 16) 217 rfl w.heap.size 310 i0 _ 2 24 Tryz.underlying217 hi eX eP eA rfl (by decide) _ _ _ rfl ((bj.alloc _).alloc _) ⟨w1.heap.size+1,0,none⟩ 1 1 [.int .i64 (t.kind-2),.string t.text] rfl rfl (eM _ _ _ _) (by simp[Value.oneCell']) (by unfold maxLen;omega) (by omega) (by simp;omega) ?_;intro v2 w2 aO bx _;obtain⟨iI,dL⟩:=uf bj fZ (al hg fA) bx;clear bx bj fZ) | (go_at_call 223;refine(dm _ _ _ _ _ iI _ oh _ (by decide) h6).mono ?_;rintro e w3 ⟨rfl,vj,nB⟩;have fG:=cY aO iI nB (by decide)))
     go_roundg k
     case measure=>omega
     case rel=>
      refine⟨i+1+1,acc++[⟨t.kind-2,t.text⟩],vj, ?_,al dL nB,by simp;omega,by omega,mK.out.symm.trans Bw.out⟩
      rw[o4];simpa using fG
    case false=>
     have mK:Hid (Ax.bP aa (k+1) i acc=(some (acc++[⟨t.kind-2,t.text⟩]),i+1)):=Ax.oU TA.out (by rw[Ax.cZ oh.out];simpa using h6)
     go_wp2_with (first | (go_at_call 283;refine(Fa _ _ _ _ _ hp _ ht hkh).mono ?_;rintro e w1 ⟨rfl,fZ,fA⟩;have bj:=cY aj hp fA (by decide);have kW:=fA.size) | (at_builtin;refine wpList_append_own _ rfl (.tmp 14) (.tmp 16) 217 rfl w.heap.size 310 i0 _ 2 24 Tryz.underlying217 hi eX eP eA rfl (by decide) _ _ _ rfl ((bj.alloc _).alloc _) ⟨w1.heap.size+1,0,none⟩ 1 1 [.int .i64 (t.kind-2),.string t.text] rfl rfl (eM _ _ _ _) (by simp[Value.oneCell']) (by unfold maxLen;omega) (by omega) (by simp;omega) ?_;intro v2 w2 aO bx _;obtain⟨iI,dL⟩:=uf bj fZ (al hg fA) bx;clear bx bj fZ) | (go_at_call 223;refine(gx _ _ _ _ _ iI _ oh _ h6).mono ?_;rintro e w3 ⟨rfl,eB⟩;have fG:=af aO eB))
     go_ret2
     have e:=Bw.out.symm.trans mK.out
     refine⟨by rw[e];exact iI.below eB,al dL (aT eB _),.inl ⟨_,acc++[⟨t.kind-2,t.text⟩],rfl,by rw[e], ?_⟩⟩
     rw[o4];simpa using fG
  · have QA:Hid (Ax.bP aa (k+1) i acc=(none,i)):=Ax.EW (Ax.Hn ht.out hk)
    have k2:(t.kind==2)=false:=by simp;omega
    have k3:(t.kind==3)=false:=by simp;omega
    clear hk
    go_wp2_with (go_at_call 283;refine(Lb _ _ _ _ _ hp _ ht k2 k3).mono ?_;rintro e w1 ⟨rfl,fZ,fA⟩)
    go_ret2
    have e:=Bw.out.symm.trans QA.out
    exact⟨by rw[e];exact fZ.alloc _,grownBy_alloc (al hg fA) _,.inr ⟨rfl,by rw[e]⟩⟩
theorem Hq(w:World)(pb:Nat)(tv:Value)(aa:List Ax.Tok)(nx j:Nat)(h:dg w pb tv aa nx)(hR:Hid (Ax.bP aa aa.length nx []=(none,j))):
 Calls Tryz.prog 260 #[.pointer (some ⟨pb,0,none⟩)] w fun e w'=>e=.returned (.tuple #[.slice none 0 0,.bool false])∧dg w' pb tv aa j∧w.grownBy w' (some pb):=by
 refine(Bm w pb tv aa nx h).mono ?_
 rintro e w' ⟨hp,hg,hc⟩
 rw[hR.out]at hp hc
 rcases hc with⟨v,ts,_,hn,_⟩ | ⟨rfl,_⟩
 · simp at hn
 · exact⟨rfl,hp,hg⟩
theorem xv(w:World)(pb:Nat)(tv:Value)(aa:List Ax.Tok)(nx j:Nat)(ts:List Ax.Term)(h:dg w pb tv aa nx)(hR:Hid (Ax.bP aa aa.length nx []=(some ts,j))):
 Calls Tryz.prog 260 #[.pointer (some ⟨pb,0,none⟩)] w fun e w'=>∃ad c,e=.returned (.tuple #[.slice ad ts.length c,.bool true])∧dg w' pb tv aa j∧w.grownBy w' (some pb)∧w'.ownsRow w.heap.size 310 2 (.slice ad ts.length c) ts.length (b9 ts):=by
 refine(Bm w pb tv aa nx h).mono ?_
 rintro e w' ⟨hp,hg,hc⟩
 rw[hR.out]at hp hc
 rcases hc with⟨v,ts',rfl,hn,aj⟩ | ⟨_,hn⟩
 · simp at hn
   subst hn
   obtain⟨a,c,rfl⟩:∃a c,v=.slice a ts.length c:=by
    rcases aj.2 with⟨rfl,e⟩ | ⟨g,cap,cur,rfl,_⟩
    · rw[e];exact⟨none,0,rfl⟩
    · exact⟨_,_,rfl⟩
   exact⟨a,c,rfl,hp,hg,aj⟩
 · simp at hn
end
/- The parser: atom. -/
section
open Go.RowKit
theorem ah{w:World}{b:Nat}{e:TypeId}{size:Nat}{v:Value}{n:Nat}{xs:List Value}(h:w.ownsRow b e size v n xs):∃a c,v=.slice a n c:=by
 rcases h.2 with⟨rfl,rfl⟩ | ⟨g,cap,cur,rfl,_⟩
 · exact⟨none,0,rfl⟩
 · exact⟨_,_,rfl⟩
theorem il{w w2:World}{pb:Nat}{tv:Value}{aa:List Ax.Tok}{nx k:Nat}{a b c:Value}(r2:w2.heap[k]?=some (.cells #[a,b,c] 219 (0,0)))(x y z:Value)(gw:w.grownBy w2 (some pb))(hp:dg w2 pb tv aa nx)(hk:w.heap.size≤k):
 (((w2.setCell ⟨k,0,none⟩ x).setCell ⟨k,1,none⟩ y).setCell ⟨k,2,none⟩ z).heap[k]?=some (.cells #[x,y,z] 219 (0,0))∧w.grownBy (((w2.setCell ⟨k,0,none⟩ x).setCell ⟨k,1,none⟩ y).setCell ⟨k,2,none⟩ z) (some pb)∧dg (((w2.setCell ⟨k,0,none⟩ x).setCell ⟨k,1,none⟩ y).setCell ⟨k,2,none⟩ z) pb tv aa nx:=by
 have h0:=heap_setCell_same (off:=0) r2 x
 have h1:=heap_setCell_same (off:=1) h0 y
 have h2:=heap_setCell_same (off:=2) h1 z
 refine⟨by rw[h2];rfl,cX (cX (cX gw hk x) hk y) hk z, ?_⟩
 refine((hp.row (grownBy_setCell _ _) (e':=219) (fun j hj=> ?_) (by decide) (by decide)).row (grownBy_setCell _ _) (e':=219) (fun j hj=> ?_) (by decide) (by decide)).row (grownBy_setCell _ _) (e':=219) (fun j hj=> ?_) (by decide) (by decide)
 · cases hj;exact⟨_,_,r2⟩
 · cases hj;exact⟨_,_,h0⟩
 · cases hj;exact⟨_,_,h1⟩
theorem UC(w:World)(pb:Nat)(tv:Value)(aa:List Ax.Tok)(nx:Nat)(h:dg w pb tv aa nx)(t:Ax.Tok)(ht:Hid (aa[nx]?=some t))(he:(t.kind==2)=false):
 Calls Tryz.prog 222 #[.pointer (some ⟨pb,0,none⟩)] w fun e w'=>e=.returned (.tuple #[.agg #[.int .i64 0,.string ⟨#[]⟩,.slice none 0 0],.bool false])∧dg w' pb tv aa nx∧w.grownBy w' (some pb):=by
 have yB:=lt_of_heap h.1
 go_enter Tryz.func222,Tryz.ntmps222
 go_wp2_with (first | (go_at_call 105;refine(dY _ _ _ _ _ (h.alloc _) _ ht).mono ?_;rintro e w1 ⟨rfl,bk⟩;rw[World.size_alloc]at bk;have fZ:=((h.alloc (.cells #[.int .i64 0,.string ⟨#[]⟩,.slice none 0 0] 219)).below (by rw[World.size_alloc];exact bk)).alloc (.cells #[.int .i64 t.kind,.int .i64 t.at_,.string t.text] 210)) | (go_at_call_of 223 (Value.int IntKind.i64 2);refine(gx _ _ _ _ _ fZ _ ht _ he).mono ?_;rintro e w2 ⟨rfl,cM⟩;have iI:=fZ.below cM;have dL:=(aT cM (some pb));obtain⟨t2,r2,GM,ZZ,ZO⟩:=dI h bk dL;have Tz:=ae r2 0;have f12:=ae r2 1;have f22:=ae r2 2;have EV:=ab r2 0;have yl:=ab r2 1;have YF:=ab r2 2;have Zm:=ab t2 1;have Yw:=ab t2 2;simp only[List.getElem?_toArray,List.getElem?_cons_zero,List.getElem?_cons_succ]at Zm Yw EV yl YF))
 obtain⟨hu,gu,pu⟩:=il r2 (.int .i64 0) (.string ⟨#[]⟩) (.slice none 0 0) GM iI (Nat.le_refl _)
 exact bodyPost_ret (v:=.tuple #[.agg #[.int .i64 0,.string ⟨#[]⟩,.slice none 0 0],.bool false]) (by simp[results,Tryz.results222,go_sem,ab hu]) rfl ⟨rfl,pu,gu⟩
theorem T3(w:World)(pb:Nat)(tv:Value)(aa:List Ax.Tok)(nx:Nat)(h:dg w pb tv aa nx)(t:Ax.Tok)(ht:Hid (aa[nx]?=some t))(he:(t.kind==2)=true)(t':Ax.Tok)(oh:Hid (aa[nx+1]?=some t'))(h4:(t'.kind==4)=false):
 Calls Tryz.prog 222 #[.pointer (some ⟨pb,0,none⟩)] w fun e w'=>e=.returned (.tuple #[.agg #[.int .i64 0,.string ⟨#[]⟩,.slice none 0 0],.bool false])∧dg w' pb tv aa (nx+1)∧w.grownBy w' (some pb):=by
 have yB:=lt_of_heap h.1
 go_enter Tryz.func222,Tryz.ntmps222
 go_wp2_with (first | (go_at_call 105;refine(dY _ _ _ _ _ (h.alloc _) _ ht).mono ?_;rintro e w1 ⟨rfl,bk⟩;rw[World.size_alloc]at bk;have fZ:=((h.alloc (.cells #[.int .i64 0,.string ⟨#[]⟩,.slice none 0 0] 219)).below (by rw[World.size_alloc];exact bk)).alloc (.cells #[.int .i64 t.kind,.int .i64 t.at_,.string t.text] 210)) | (go_at_call_of 223 (Value.int IntKind.i64 2);refine(dm _ _ _ _ _ fZ _ ht _ (by decide) he).mono ?_;rintro e w2 ⟨rfl,iI,GV⟩;have dL:=GV) | (go_at_call_of 223 (Value.int IntKind.i64 4);refine(gx _ _ _ _ _ iI _ oh _ h4).mono ?_;rintro e w3 ⟨rfl,eB⟩;have vj:=iI.below eB;have nB:=al dL (aT eB (some pb));obtain⟨t3,r3,YA,U8,Uc⟩:=dI h bk nB;have Q2:=ae r3 0;have f13:=ae r3 1;have f23:=ae r3 2;have CR:=ab r3 0;have vA:=ab r3 1;have Uy:=ab r3 2;have V6:=ab t3 1;have We:=ab t3 2;simp only[List.getElem?_toArray,List.getElem?_cons_zero,List.getElem?_cons_succ]at V6 We CR vA Uy))
 obtain⟨hu,gu,pu⟩:=il r3 (.int .i64 0) (.string ⟨#[]⟩) (.slice none 0 0) YA vj (Nat.le_refl _)
 exact bodyPost_ret (v:=.tuple #[.agg #[.int .i64 0,.string ⟨#[]⟩,.slice none 0 0],.bool false]) (by simp[results,Tryz.results222,go_sem,ab hu]) rfl ⟨rfl,pu,gu⟩
theorem VH(w:World)(pb:Nat)(tv:Value)(aa:List Ax.Tok)(nx:Nat)(h:dg w pb tv aa nx)(t:Ax.Tok)(ht:Hid (aa[nx]?=some t))(he:(t.kind==2)=true)(t':Ax.Tok)(oh:Hid (aa[nx+1]?=some t'))(h4:(t'.kind==4)=true)(j:Nat)(hR:Hid (Ax.bP aa aa.length (nx+1+1) []=(none,j))):
 Calls Tryz.prog 222 #[.pointer (some ⟨pb,0,none⟩)] w fun e w'=>e=.returned (.tuple #[.agg #[.int .i64 0,.string ⟨#[]⟩,.slice none 0 0],.bool false])∧dg w' pb tv aa j∧w.grownBy w' (some pb):=by
 have yB:=lt_of_heap h.1
 go_enter Tryz.func222,Tryz.ntmps222
 go_wp2_with (first | (go_at_call 105;refine(dY _ _ _ _ _ (h.alloc _) _ ht).mono ?_;rintro e w1 ⟨rfl,bk⟩;rw[World.size_alloc]at bk;have fZ:=((h.alloc (.cells #[.int .i64 0,.string ⟨#[]⟩,.slice none 0 0] 219)).below (by rw[World.size_alloc];exact bk)).alloc (.cells #[.int .i64 t.kind,.int .i64 t.at_,.string t.text] 210)) | (go_at_call_of 223 (Value.int IntKind.i64 2);refine(dm _ _ _ _ _ fZ _ ht _ (by decide) he).mono ?_;rintro e w2 ⟨rfl,iI,GV⟩;have dL:=GV) | (go_at_call_of 223 (Value.int IntKind.i64 4);refine(dm _ _ _ _ _ iI _ oh _ (by decide) h4).mono ?_;rintro e w3 ⟨rfl,vj,tM⟩;have nB:=al dL tM) | (go_at_call 260;refine(Hq _ _ _ _ _ _ vj hR).mono ?_;rintro e w4 ⟨rfl,DQ,wD⟩;have yX:=al nB wD;obtain⟨t4,r4,O9,Jt,LG⟩:=dI h bk yX;have PO:=ae r4 0;have f14:=ae r4 1;have f24:=ae r4 2;have zA:=ab r4 0;have tH:=ab r4 1;have KJ:=ab r4 2;have I6:=ab t4 1;have K5:=ab t4 2;simp only[List.getElem?_toArray,List.getElem?_cons_zero,List.getElem?_cons_succ]at I6 K5 zA tH KJ))
 obtain⟨hu,gu,pu⟩:=il r4 (.int .i64 0) (.string ⟨#[]⟩) (.slice none 0 0) O9 DQ (Nat.le_refl _)
 exact bodyPost_ret (v:=.tuple #[.agg #[.int .i64 0,.string ⟨#[]⟩,.slice none 0 0],.bool false]) (by simp[results,Tryz.results222,go_sem,ab hu]) rfl ⟨rfl,pu,gu⟩
theorem Uq(w:World)(pb:Nat)(tv:Value)(aa:List Ax.Tok)(nx:Nat)(h:dg w pb tv aa nx)(t:Ax.Tok)(ht:Hid (aa[nx]?=some t))(he:(t.kind==2)=true)(t':Ax.Tok)(oh:Hid (aa[nx+1]?=some t'))(h4:(t'.kind==4)=true)(j:Nat)(ts:List Ax.Term)(hR:Hid (Ax.bP aa aa.length (nx+1+1) []=(some ts,j)))(t3:Ax.Tok)(C6:Hid (aa[j]?=some t3))(h5:(t3.kind==5)=false):
 Calls Tryz.prog 222 #[.pointer (some ⟨pb,0,none⟩)] w fun e w'=>∃x y ad n c,e=.returned (.tuple #[.agg #[.int .i64 x,.string y,.slice ad n c],.bool false])∧dg w' pb tv aa j∧w.grownBy w' (some pb):=by
 have yB:=lt_of_heap h.1
 go_enter Tryz.func222,Tryz.ntmps222
 go_wp2_with (first | (go_at_call 105;refine(dY _ _ _ _ _ (h.alloc _) _ ht).mono ?_;rintro e w1 ⟨rfl,bk⟩;rw[World.size_alloc]at bk;have fZ:=((h.alloc (.cells #[.int .i64 0,.string ⟨#[]⟩,.slice none 0 0] 219)).below (by rw[World.size_alloc];exact bk)).alloc (.cells #[.int .i64 t.kind,.int .i64 t.at_,.string t.text] 210)) | (go_at_call_of 223 (Value.int IntKind.i64 2);refine(dm _ _ _ _ _ fZ _ ht _ (by decide) he).mono ?_;rintro e w2 ⟨rfl,iI,GV⟩;have dL:=GV) | (go_at_call_of 223 (Value.int IntKind.i64 4);refine(dm _ _ _ _ _ iI _ oh _ (by decide) h4).mono ?_;rintro e w3 ⟨rfl,vj,tM⟩;have nB:=al dL tM) | (go_at_call 260;refine(xv _ _ _ _ _ _ _ vj hR).mono ?_;rintro e w4 ⟨ad,c,rfl,DQ,wD,SF⟩;have yX:=al nB wD;obtain⟨t4,r4,O9,Jt,LG⟩:=dI h bk yX;have PO:=ae r4 0;have f14:=ae r4 1;have f24:=ae r4 2;have zA:=ab r4 0;have tH:=ab r4 1;have KJ:=ab r4 2;have I6:=ab t4 1;have K5:=ab t4 2;simp only[List.getElem?_toArray,List.getElem?_cons_zero,List.getElem?_cons_succ]at I6 K5 zA tH KJ))
 go_region_with (go_at_call 223;refine(gx _ pb tv aa j (by exact DQ) _ C6 _ h5).mono ?_;rintro e w5 ⟨rfl,ls⟩;have O6:=dg.below (by exact DQ) ls;have hg5:=al (fP yX) (aT ls (some pb));obtain⟨t5,r5,gw5,abN,ac2⟩:=dI h bk hg5;have Z4:=ae r5 0;have f15:=ae r5 1;have f25:=ae r5 2;have QW:=ab r5 0;have Gj:=ab r5 1;have k25:=ab r5 2;have c15:=ab t5 1;have c25:=ab t5 2;simp only[List.getElem?_toArray,List.getElem?_cons_zero,List.getElem?_cons_succ]at c15 c25 QW Gj k25)
 all_goals (go_wp2_with fail)
 all_goals (obtain⟨hu,gu,pu⟩:=il r5 (.int .i64 t.at_) (.string t.text) (.slice ad ts.length c) gw5 O6 (Nat.le_refl _))
 all_goals (exact bodyPost_ret (v:=.tuple #[.agg #[.int .i64 t.at_,.string t.text,.slice ad ts.length c],.bool false]) (by simp[results,Tryz.results222,go_sem,ab hu]) rfl ⟨_,_,_,_,_,rfl,pu,gu⟩)
end
/- The parser: atom, whole. -/
section
open Go.RowKit
theorem vl{w2:World}{k:Nat}{a b c:Value}{T:TypeId}(r2:w2.heap[k]?=some (.cells #[a,b,c] T (0,0)))(x y z:Value){bs:Nat}{e:TypeId}{size:Nat}{v:Value}{n:Nat}{xs:List Value}(h:w2.ownsRow bs e size v n xs)(cL:e≠T):
 (((w2.setCell ⟨k,0,none⟩ x).setCell ⟨k,1,none⟩ y).setCell ⟨k,2,none⟩ z).ownsRow bs e size v n xs:=by
 have h0:=heap_setCell_same (off:=0) r2 x
 have h1:=heap_setCell_same (off:=1) h0 y
 refine cV (cV (cV h (grownBy_setCell _ _) (e':=T) (fun j hj=> ?_) cL) (grownBy_setCell _ _) (e':=T) (fun j hj=> ?_) cL) (grownBy_setCell _ _) (e':=T) (fun j hj=> ?_) cL
 · cases hj;exact⟨_,_,r2⟩
 · cases hj;exact⟨_,_,h0⟩
 · cases hj;exact⟨_,_,h1⟩
theorem Wi(w:World)(pb:Nat)(tv:Value)(aa:List Ax.Tok)(nx:Nat)(h:dg w pb tv aa nx)(t:Ax.Tok)(ht:Hid (aa[nx]?=some t))(he:(t.kind==2)=true)(t':Ax.Tok)(oh:Hid (aa[nx+1]?=some t'))(h4:(t'.kind==4)=true)(j:Nat)(ts:List Ax.Term)(hR:Hid (Ax.bP aa aa.length (nx+1+1) []=(some ts,j)))(t3:Ax.Tok)(C6:Hid (aa[j]?=some t3))(h5:(t3.kind==5)=true):
 Calls Tryz.prog 222 #[.pointer (some ⟨pb,0,none⟩)] w fun e w'=>∃ad c,e=.returned (.tuple #[.agg #[.int .i64 t.at_,.string t.text,.slice ad ts.length c],.bool true])∧dg w' pb tv aa (j+1)∧w.grownBy w' (some pb)∧w'.ownsRow w.heap.size 310 2 (.slice ad ts.length c) ts.length (b9 ts):=by
 have yB:=lt_of_heap h.1
 go_enter Tryz.func222,Tryz.ntmps222
 go_wp2_with (first | (go_at_call 105;refine(dY _ _ _ _ _ (h.alloc _) _ ht).mono ?_;rintro e w1 ⟨rfl,bk⟩;rw[World.size_alloc]at bk;have fZ:=((h.alloc (.cells #[.int .i64 0,.string ⟨#[]⟩,.slice none 0 0] 219)).below (by rw[World.size_alloc];exact bk)).alloc (.cells #[.int .i64 t.kind,.int .i64 t.at_,.string t.text] 210)) | (go_at_call_of 223 (Value.int IntKind.i64 2);refine(dm _ _ _ _ _ fZ _ ht _ (by decide) he).mono ?_;rintro e w2 ⟨rfl,iI,GV⟩;have dL:=GV) | (go_at_call_of 223 (Value.int IntKind.i64 4);refine(dm _ _ _ _ _ iI _ oh _ (by decide) h4).mono ?_;rintro e w3 ⟨rfl,vj,tM⟩;have nB:=al dL tM) | (go_at_call 260;refine(xv _ _ _ _ _ _ _ vj hR).mono ?_;rintro e w4 ⟨ad,c,rfl,DQ,wD,SF⟩;have yX:=al nB wD;have acX:=(dI h bk nB).2.2.1.size;obtain⟨t4,r4,O9,Jt,LG⟩:=dI h bk yX;have PO:=ae r4 0;have f14:=ae r4 1;have f24:=ae r4 2;have zA:=ab r4 0;have tH:=ab r4 1;have KJ:=ab r4 2;have I6:=ab t4 1;have K5:=ab t4 2;simp only[List.getElem?_toArray,List.getElem?_cons_zero,List.getElem?_cons_succ]at I6 K5 zA tH KJ))
 go_region_with (go_at_call 223;refine(dm _ pb tv aa j (by exact DQ) _ C6 _ (by decide) h5).mono ?_;rintro e w5 ⟨rfl,O6,Yh⟩;have hg5:=al (fP yX) Yh;have OZ:=cY (w:=w4.drew) SF (by exact DQ) Yh (by decide);obtain⟨t5,r5,gw5,abN,ac2⟩:=dI h bk hg5;have Z4:=ae r5 0;have f15:=ae r5 1;have f25:=ae r5 2;have QW:=ab r5 0;have Gj:=ab r5 1;have k25:=ab r5 2;have c15:=ab t5 1;have c25:=ab t5 2;simp only[List.getElem?_toArray,List.getElem?_cons_zero,List.getElem?_cons_succ]at c15 c25 QW Gj k25)
 all_goals (go_wp2_with fail)
 all_goals (obtain⟨hu,gu,pu⟩:=il r5 (.int .i64 t.at_) (.string t.text) (.slice ad ts.length c) gw5 O6 (Nat.le_refl _))
 all_goals (exact bodyPost_ret (v:=.tuple #[.agg #[.int .i64 t.at_,.string t.text,.slice ad ts.length c],.bool true]) (by simp[results,Tryz.results222,go_sem,ab hu]) rfl ⟨_,_,rfl,pu,gu,aN (vl r5 _ _ _ OZ (by decide)) acX⟩)
theorem E5(w:World)(pb:Nat)(tv:Value)(aa:List Ax.Tok)(nx:Nat)(h:dg w pb tv aa nx):
 Calls Tryz.prog 222 #[.pointer (some ⟨pb,0,none⟩)] w fun e w'=>dg w' pb tv aa (Ax.bQ aa nx).2∧w.grownBy w' (some pb)∧
  ((∃ad c a,e=.returned (.tuple #[.agg #[.int .i64 a.at_,.string a.pred,.slice ad a.ag.length c],.bool true])∧(Ax.bQ aa nx).1=some a∧w'.ownsRow w.heap.size 310 2 (.slice ad a.ag.length c) a.ag.length (b9 a.ag))∨
   (∃x y ad n c,e=.returned (.tuple #[.agg #[.int .i64 x,.string y,.slice ad n c],.bool false])∧(Ax.bQ aa nx).1=none)):=by
 obtain⟨t,ht⟩:∃t,aa[nx]?=some t:=⟨_,List.getElem?_eq_getElem h.2.2.1⟩
 by_cases he:t.kind=2
 case neg=>
  rw[Ax.ID ht he]
  refine(UC w pb tv aa nx h t ht (by simpa using he)).mono ?_
  rintro e w' ⟨rfl,hp,hg⟩
  exact⟨hp,hg,.inr ⟨_,_,_,_,_,rfl,rfl⟩⟩
 have vU:nx+1<aa.length:=by
  obtain⟨hl,e⟩:=qV ht
  exact h.2.2.2.2.next hl (by rw[e];omega) (by rw[e];omega)
 obtain⟨t',oh⟩:∃t,aa[nx+1]?=some t:=⟨_,List.getElem?_eq_getElem vU⟩
 have BZ:=Ax.cZ oh
 by_cases h4:t'.kind=4
 case neg=>
  rw[Ax.I0 ht he (by rw[BZ];exact h4)]
  refine(T3 w pb tv aa nx h t ht (by simpa using he) t' oh (by simpa using h4)).mono ?_
  rintro e w' ⟨rfl,hp,hg⟩
  exact⟨hp,hg,.inr ⟨_,_,_,_,_,rfl,rfl⟩⟩
 have h4k:Ax.aA aa (nx+1)=4:=by rw[BZ];exact h4
 have FK:nx+1+1<aa.length:=by
  obtain⟨hl,e⟩:=qV oh
  exact h.2.2.2.2.next hl (by rw[e];omega) (by rw[e];omega)
 rcases hR:Ax.bP aa aa.length (nx+1+1) []with⟨_ | ts,j⟩
 · rw[Ax.I2 ht he h4k hR]
   refine(VH w pb tv aa nx h t ht (by simpa using he) t' oh (by simpa using h4) j hR).mono ?_
   rintro e w' ⟨rfl,hp,hg⟩
   exact⟨hp,hg,.inr ⟨_,_,_,_,_,rfl,rfl⟩⟩
 · have hj:j<aa.length:=Ax.pF h.2.2.2.2 _ _ _ FK hR
   obtain⟨t3,C6⟩:∃t,aa[j]?=some t:=⟨_,List.getElem?_eq_getElem hj⟩
   have Gk:=Ax.cZ C6
   by_cases h5:t3.kind=5
   · rw[Ax.Ch ht he h4k hR (by rw[Gk];exact h5)]
     refine(Wi w pb tv aa nx h t ht (by simpa using he) t' oh (by simpa using h4) j ts hR t3 C6 (by simpa using h5)).mono ?_
     rintro e w' ⟨ad,c,rfl,hp,hg,aj⟩
     exact⟨hp,hg,.inl ⟨ad,c,⟨t.at_,t.text,ts⟩,rfl,rfl,aj⟩⟩
   · rw[Ax.I3 ht he h4k hR (by rw[Gk];exact h5)]
     refine(Uq w pb tv aa nx h t ht (by simpa using he) t' oh (by simpa using h4) j ts hR t3 C6 (by simpa using h5)).mono ?_
     rintro e w' ⟨x,y,ad,n,c,rfl,hp,hg⟩
     exact⟨hp,hg,.inr ⟨_,_,_,_,_,rfl,rfl⟩⟩
end
end Go.Proofs.YtdmicblafmhflaaGreatDoor

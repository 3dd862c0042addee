/- The parser: term. -/
import Derived.Test.YtdmicblafmhflaaGreatDoorC04
import Derived.Deep.RegionWith
import Derived.Deep.LoopGhost
set_option linter.unusedSimpArgs false
set_option linter.unusedVariables false
set_option maxHeartbeats 2000000
namespace Go.Proofs.YtdmicblafmhflaaGreatDoor
section
open Go.RowKit
theorem dF.alloc{w:World}{pb:Nat}{tv:Value}{ae:List Ax.Tok}{nx:Nat}(h:dF w pb tv ae nx)(o:Obj):dF (w.alloc o) pb tv ae nx:=
 h.below ((Below.refl _ _).alloc (Nat.le_refl _) o)
theorem dF.row{w w':World}{pb:Nat}{tv:Value}{ae:List Ax.Tok}{nx:Nat}{row:Option Nat}{e':TypeId}(h:dF w pb tv ae nx)(hg:w.grownBy w' row)
 (hr:∀k,row=some k→∃cur fz,w.heap[k]?=some (.cells cur e' fz))(h1:205≠e')(h2:210≠e'):dF w' pb tv ae nx:=by
 refine⟨?_,cX h.2.1 hg hr h2,h.2.2⟩
 rw[hg.block pb (lt_of_heap h.1) ?_]
 · exact h.1
 · intro e1
   obtain⟨cur,fz,hk⟩:=hr pb e1.symm
   rw[h.1]at hk
   simp at hk
   exact h1 hk.2.1
theorem heap_setCell_same{w:World}{k off:Nat}{cur:Array Value}{t:TypeId}{fz:Nat×Nat}(h:w.heap[k]?=some (.cells cur t fz))(v:Value):(w.setCell ⟨k,off,none⟩ v).heap[k]?=some (.cells (cur.setIfInBounds off v) t fz):=by
 simp only[World.setCell,Array.getElem?_modify,h]
 simp
theorem ag{w:World}{k:Nat}{cur:Array Value}{t:TypeId}{fz:Nat×Nat}(h:w.heap[k]?=some (.cells cur t fz))(j:Nat):w.cell? ⟨k,j,none⟩=cur[j]?:=by
 rw[cell_of_row _ k j _ _ _ h]
theorem aq{w:World}{k:Nat}{cur:Array Value}{t:TypeId}(h:w.heap[k]?=some (.cells cur t (0,0)))(j:Nat):w.frozen? ⟨k,j,none⟩=false:=by
 simp[World.frozen?,h]
theorem dU{w w1 w2:World}{pb:Nat}{tv:Value}{ae:List Ax.Tok}{nx:Nat}{o1 o2:Obj}(h:dF w pb tv ae nx)(bq:Below (w.heap.size+1) (w.alloc o1) w1)(eE:(w1.alloc o2).grownBy w2 (some pb)):
 w2.heap[w1.heap.size]?=some o2∧w2.heap[w.heap.size]?=some o1∧w.grownBy w2 (some pb)∧w.heap.size<w1.heap.size∧w1.heap.size<w2.heap.size:=by
 have hp:=lt_of_heap h.1
 have kV:=bq.size
 have yH:=eE.size
 simp only[World.size_alloc]at kV yH
 refine⟨?_, ?_, ?_,by omega,by omega⟩
 · rw[eE.block _ (by simp) (by simp;omega)]
   exact heap_alloc_new _ _
 · rw[eE.block _ (by simp;omega) (by simp;omega),Below.heap_alloc _ _ _ (by omega),bq.block _ (by omega)]
   exact heap_alloc_new _ _
 · refine ax ?_ eE
   refine ax ?_ (World.grownBy_alloc _ _ _)
   refine ax (World.grownBy_alloc w o1 _) (aW (bq.mono (by simp)) _)
theorem ql{w w2:World}{pb:Nat}{tv:Value}{ae:List Ax.Tok}{nx k:Nat}{a b:Value}(r2:w2.heap[k]?=some (.cells #[a,b] 310 (0,0)))(c d:Value)(gw:w.grownBy w2 (some pb))(hp:dF w2 pb tv ae nx)(hk:w.heap.size≤k):
 ((w2.setCell ⟨k,0,none⟩ c).setCell ⟨k,1,none⟩ d).heap[k]?=some (.cells #[c,d] 310 (0,0))∧w.grownBy ((w2.setCell ⟨k,0,none⟩ c).setCell ⟨k,1,none⟩ d) (some pb)∧dF ((w2.setCell ⟨k,0,none⟩ c).setCell ⟨k,1,none⟩ d) pb tv ae nx:=by
 have h0:=heap_setCell_same (off:=0) r2 c
 have h1:=heap_setCell_same (off:=1) h0 d
 refine⟨by rw[h1];rfl,cV (cV gw hk c) hk d, ?_⟩
 refine(hp.row (grownBy_setCell _ _) (e':=310) (fun j hj=> ?_) (by decide) (by decide)).row (grownBy_setCell _ _) (e':=310) (fun j hj=> ?_) (by decide) (by decide)
 · cases hj;exact⟨_,_,r2⟩
 · cases hj;exact⟨_,_,h0⟩
theorem Ks(w:World)(pb:Nat)(tv:Value)(ae:List Ax.Tok)(nx:Nat)(h:dF w pb tv ae nx)(t:Ax.Tok)(ht:Hid (ae[nx]?=some t))(he:(t.kind==2)=true):
 Calls Tryz.prog 283 #[.pointer (some ⟨pb,0,none⟩)] w fun e w'=>e=.returned (.tuple #[.agg #[.int .i64 0,.string t.text],.bool true])∧dF w' pb tv ae (nx+1)∧w.grownBy w' (some pb):=by
 have vO:=lt_of_heap h.1
 go_enter Tryz.func283,Tryz.ntmps283
 go_wp2_with (first | (go_at_call 105;refine(eI _ _ _ _ _ (h.alloc _) _ ht).mono ?_;rintro e w1 ⟨rfl,bq⟩;rw[World.size_alloc]at bq;have fW:=((h.alloc (.cells #[.int .i64 0,.string ⟨#[]⟩] 310)).below (by rw[World.size_alloc];exact bq))) | (go_at_call_of 223 (Value.int IntKind.i64 2);refine(du _ _ _ _ _ (fW.alloc _) _ ht _ (by decide) he).mono ?_;rintro e w2 ⟨rfl,jZ,eE⟩;obtain⟨t2,r2,O5,Zy,lt2⟩:=dU h bq eE;have c2:=ag t2 2;have f0:=aq r2 0;have f1:=aq r2 1;have k0:=ag r2 0;have k1:=ag r2 1;simp only[List.getElem?_toArray,List.getElem?_cons_zero,List.getElem?_cons_succ]at c2 k0 k1))
 obtain⟨hu,gu,pu⟩:=ql r2 (.int .i64 0) (.string t.text) O5 jZ (Nat.le_refl _)
 exact bodyPost_ret (v:=.tuple #[.agg #[.int .i64 0,.string t.text],.bool true]) (by simp[results,Tryz.results283,go_sem,ag hu]) rfl ⟨rfl,pu,gu⟩
theorem Mp(w:World)(pb:Nat)(tv:Value)(ae:List Ax.Tok)(nx:Nat)(h:dF w pb tv ae nx)(t:Ax.Tok)(ht:Hid (ae[nx]?=some t))(he:(t.kind==2)=false)(hf:(t.kind==3)=true):
 Calls Tryz.prog 283 #[.pointer (some ⟨pb,0,none⟩)] w fun e w'=>e=.returned (.tuple #[.agg #[.int .i64 1,.string t.text],.bool true])∧dF w' pb tv ae (nx+1)∧w.grownBy w' (some pb):=by
 have vO:=lt_of_heap h.1
 go_enter Tryz.func283,Tryz.ntmps283
 go_wp2_with (first | (go_at_call 105;refine(eI _ _ _ _ _ (h.alloc _) _ ht).mono ?_;rintro e w1 ⟨rfl,bq⟩;rw[World.size_alloc]at bq;have fW:=((h.alloc (.cells #[.int .i64 0,.string ⟨#[]⟩] 310)).below (by rw[World.size_alloc];exact bq))) | (go_at_call_of 223 (Value.int IntKind.i64 2);refine(gq _ _ _ _ _ (fW.alloc _) _ ht _ he).mono ?_;rintro e w2 ⟨rfl,cw⟩;have jZ:=(fW.alloc (.cells #[.int .i64 t.kind,.int .i64 t.at_,.string t.text] 210)).below cw) | (go_at_call_of 223 (Value.int IntKind.i64 3);refine(du _ _ _ _ _ jZ _ ht _ (by decide) hf).mono ?_;rintro e w3 ⟨rfl,vh,nN⟩;have eE:=ax (aW cw (some pb)) nN;obtain⟨t2,r2,O5,Zy,lt2⟩:=dU h bq eE;have c2:=ag t2 2;have f0:=aq r2 0;have f1:=aq r2 1;have k0:=ag r2 0;have k1:=ag r2 1;simp only[List.getElem?_toArray,List.getElem?_cons_zero,List.getElem?_cons_succ]at c2 k0 k1))
 obtain⟨hu,gu,pu⟩:=ql r2 (.int .i64 1) (.string t.text) O5 vh (Nat.le_refl _)
 exact bodyPost_ret (v:=.tuple #[.agg #[.int .i64 1,.string t.text],.bool true]) (by simp[results,Tryz.results283,go_sem,ag hu]) rfl ⟨rfl,pu,gu⟩
theorem KL(w:World)(pb:Nat)(tv:Value)(ae:List Ax.Tok)(nx:Nat)(h:dF w pb tv ae nx)(t:Ax.Tok)(ht:Hid (ae[nx]?=some t))(he:(t.kind==2)=false)(hf:(t.kind==3)=false):
 Calls Tryz.prog 283 #[.pointer (some ⟨pb,0,none⟩)] w fun e w'=>e=.returned (.tuple #[.agg #[.int .i64 0,.string ⟨#[]⟩],.bool false])∧dF w' pb tv ae nx∧w.grownBy w' (some pb):=by
 have vO:=lt_of_heap h.1
 go_enter Tryz.func283,Tryz.ntmps283
 go_wp2_with (first | (go_at_call 105;refine(eI _ _ _ _ _ (h.alloc _) _ ht).mono ?_;rintro e w1 ⟨rfl,bq⟩;rw[World.size_alloc]at bq;have fW:=((h.alloc (.cells #[.int .i64 0,.string ⟨#[]⟩] 310)).below (by rw[World.size_alloc];exact bq))) | (go_at_call_of 223 (Value.int IntKind.i64 2);refine(gq _ _ _ _ _ (fW.alloc _) _ ht _ he).mono ?_;rintro e w2 ⟨rfl,cw⟩;have jZ:=(fW.alloc (.cells #[.int .i64 t.kind,.int .i64 t.at_,.string t.text] 210)).below cw) | (go_at_call_of 223 (Value.int IntKind.i64 3);refine(gq _ _ _ _ _ jZ _ ht _ hf).mono ?_;rintro e w3 ⟨rfl,fH⟩;have vh:=jZ.below fH;have eE:=ax (aW cw (some pb)) (aW fH (some pb));obtain⟨t2,r2,O5,Zy,lt2⟩:=dU h bq eE;have c2:=ag t2 2;have f0:=aq r2 0;have f1:=aq r2 1;have k0:=ag r2 0;have k1:=ag r2 1;simp only[List.getElem?_toArray,List.getElem?_cons_zero,List.getElem?_cons_succ]at c2 k0 k1))
 obtain⟨hu,gu,pu⟩:=ql r2 (.int .i64 0) (.string ⟨#[]⟩) O5 vh (Nat.le_refl _)
 exact bodyPost_ret (v:=.tuple #[.agg #[.int .i64 0,.string ⟨#[]⟩],.bool false]) (by simp[results,Tryz.results283,go_sem,ag hu]) rfl ⟨rfl,pu,gu⟩
end
/- The parser: terms. -/
section
open Go.RowKit
theorem DS(w:World)(pb:Nat)(tv:Value)(ae:List Ax.Tok)(nx:Nat)(h:dF w pb tv ae nx)(t:Ax.Tok)(ht:Hid (ae[nx]?=some t))(hk:Hid (t.kind=2∨t.kind=3)):
 Calls Tryz.prog 283 #[.pointer (some ⟨pb,0,none⟩)] w fun e w'=>e=.returned (.tuple #[.agg #[.int .i64 (t.kind-2),.string t.text],.bool true])∧dF w' pb tv ae (nx+1)∧w.grownBy w' (some pb):=by
 rcases hk.out with e | e
 · rw[show t.kind-2=0 by omega];exact Ks w pb tv ae nx h t ht (by simp[e])
 · rw[show t.kind-2=1 by omega];exact Mp w pb tv ae nx h t ht (by simp[e]) (by simp[e])
def cf(l:List Ax.Term):List Value:=l.flatMap fun t=>[.int .i64 t.kind,.string t.text]
theorem oT(l:List Ax.Term)(t:Ax.Term):cf (l++[t])=cf l++[.int .i64 t.kind,.string t.text]:=by simp[cf]
theorem Tryz.Nc:(Tryz.prog.info? 310).map (fun i=>(i.zero,i.size,i.bytes))=some (some (.agg #[.int .i64 0,.string ByteArray.empty]),2,24):=by kernel_rfl
theorem oz{w w1 w2:World}{pb:Nat}{row:Option Nat}(h:w.grownBy w1 (some pb))(hg:w1.grownBy w2 row)(hr:∀k,row=some k→w.heap.size≤k):w.grownBy w2 (some pb):=
 ⟨hg.os.trans h.os,hg.tape.trans h.tape,hg.output.trans h.output,Nat.le_trans h.size hg.size,fun k hk cE=>(hg.block k (Nat.lt_of_lt_of_le hk h.size) (fun e=>by have:=hr k e.symm;omega)).trans (h.block k hk cE)⟩
theorem bK{w:World}{b:Nat}{e:TypeId}{size:Nat}{v:Value}{n:Nat}{xs:List Value}(h:w.ownsRow b e size v n xs):∀k,v.ownBlock=some k→∃cur fz,w.heap[k]?=some (.cells cur e fz):=by
 intro k hk
 rcases h.2 with⟨rfl,_⟩ | ⟨g,cap,cur,rfl,_,hh,_⟩
 · simp[Value.ownBlock]at hk
 · simp[Value.ownBlock]at hk;subst hk;exact⟨_,_,hh⟩
theorem cY{w w':World}{pb b:Nat}{tv v:Value}{ae:List Ax.Tok}{nx:Nat}{e:TypeId}{size n:Nat}{xs:List Value}(h:w.ownsRow b e size v n xs)(hp:dF w pb tv ae nx)(hg:w.grownBy w' (some pb))(cE:e≠205):w'.ownsRow b e size v n xs:=
 cX h hg (e':=205) (fun k hk=>by cases hk;exact⟨_,_,hp.1⟩) cE
theorem eY(w:World)(o:Obj)(t:TypeId)(xs:List Value):∀(j:Nat) (u:Value),xs[j]?=some u→((w.alloc o).alloc (.cells xs.toArray t)).cell? ((⟨w.heap.size+1,0,none⟩:Addr).add j)=some u:=by
 have:=fR (w.alloc o) t xs
 rw[World.size_alloc]at this
 exact this
theorem uq{w w1 w2:World}{pb:Nat}{tv v:Value}{ae:List Ax.Tok}{nx n:Nat}{xs:List Value}{o1 o2:Obj}(bH:w1.ownsRow w.heap.size 310 2 v n xs)(fW:dF w1 pb tv ae nx)(hg:w.grownBy w1 (some pb))
 (bx:((w1.alloc o1).alloc o2).grownBy w2 v.ownBlock):dF w2 pb tv ae nx∧w.grownBy w2 (some pb):=
 ⟨((fW.alloc o1).alloc o2).row bx (bK ((bH.alloc o1).alloc o2)) (by decide) (by decide),
  oz (grownBy_alloc (grownBy_alloc hg _) _) bx (fun k hk=>(bH.lt k hk).1)⟩
def LP(w wr:World)(pb:Nat)(tv:Value)(ae:List Ax.Tok)(v:Value)(nx k:Nat)(acc:List Ax.Term)(R:Option (List Ax.Term)×Nat):Prop:=
 dF wr pb tv ae nx∧wr.ownsRow w.heap.size 310 2 v acc.length (cf acc)∧w.grownBy wr (some pb)∧acc.length≤nx∧ae.length≤nx+k∧Ax.bX ae k nx acc=R
theorem Aq(w:World)(pb:Nat)(tv:Value)(ae:List Ax.Tok)(nx:Nat)(h:dF w pb tv ae nx):
 Calls Tryz.prog 260 #[.pointer (some ⟨pb,0,none⟩)] w fun e w'=>dF w' pb tv ae (Ax.bX ae ae.length nx []).2∧w.grownBy w' (some pb)∧
  ((∃v ts,e=.returned (.tuple #[v,.bool true])∧(Ax.bX ae ae.length nx []).1=some ts∧w'.ownsRow w.heap.size 310 2 v ts.length (cf ts))∨
   (e=.returned (.tuple #[.slice none 0 0,.bool false])∧(Ax.bX ae ae.length nx []).1=none)):=by
 obtain⟨i0,hi,ew,ev,dY⟩:=info_parts Tryz.Nc
 generalize hR:Ax.bX ae ae.length nx []=R
 have vO:=lt_of_heap h.1
 go_enter Tryz.func260,Tryz.ntmps260
 go_wp2_with fail
 go_loopg [4] ae.length (fun k v wr=>∃(i:Nat) (acc:List Ax.Term),LP w wr pb tv ae v i k acc R)
 case atStart=>exact⟨nx,[],h,World.ownsRow_nil _ _ _ _,il _ _,Nat.zero_le _,by omega,hR⟩
 case round=>
  obtain⟨i,acc,hp,au,hg,Ps,hlen,hr⟩:=hrel
  have aG:=hp.2.2.1
  have hle:=hp.2.2.2.1
  have cR:=hg.size
  cases gk with
  | zero=>omega
  | succ k=>
  obtain⟨t,LD⟩:∃t,ae[i]?=some t:=⟨_,List.getElem?_eq_getElem aG⟩
  have ht:Hid (ae[i]?=some t):=LD
  have zm:Hid (Ax.bX ae (k+1) i acc=R):=hr
  clear LD hr hR
  by_cases hk:t.kind=2∨t.kind=3
  · have Zr:Hid (t.kind=2∨t.kind=3):=hk
    clear hk
    have yg:i+1<ae.length:=by
     obtain⟨_,e⟩:=rP ht.out
     have:=Zr.out
     exact hp.2.2.2.2.next aG (by rw[e];omega) (by rw[e];omega)
    obtain⟨t',LD⟩:∃t,ae[i+1]?=some t:=⟨_,List.getElem?_eq_getElem yg⟩
    have nT:Hid (ae[i+1]?=some t'):=LD
    clear LD
    have Z2:Hid (Ax.jU ae i=(some ⟨t.kind-2,t.text⟩,i+1)):=Ax.xo ht.out Zr.out
    cases h6:(t'.kind==6)
    case true=>
     have kI:Hid (Ax.bX ae (k+1) i acc=Ax.bX ae k (i+1+1) (acc++[⟨t.kind-2,t.text⟩])):=Ax.tR Z2.out (by rw[Ax.cZ nT.out];simpa using h6)
     go_wp2_with (first | (go_at_call 283;refine(DS _ _ _ _ _ hp _ ht Zr).mono ?_;rintro e w1 ⟨rfl,fW,ft⟩;have bH:=cY au hp ft (by decide);have kV:=ft.size) | (at_builtin;refine wpList_append_own _ rfl (.tmp 14) (.tmp 16) 217 rfl w.heap.size 310 i0 _ 2 24 Tryz.underlying217 hi ew ev dY rfl (by decide) _ _ _ rfl ((bH.alloc _).alloc _) ⟨w1.heap.size+1,0,none⟩ 1 1 [.int .i64 (t.kind-2),.string t.text] rfl rfl (eY _ _ _ _) (by simp[Value.oneCell']) (by unfold maxLen;omega) (by omega) (by simp;omega) ?_;intro v2 w2 aP bx _;obtain⟨jZ,eE⟩:=uq bH fW (ax hg ft) bx;clear bx bH fW) | (go_at_call 223;refine(du _ _ _ _ _ jZ _ nT _ (by decide) h6).mono ?_;rintro e w3 ⟨rfl,vh,nN⟩;have fF:=cY aP jZ nN (by decide)))
     go_roundg k
     case measure=>omega
     case rel=>
      refine⟨i+1+1,acc++[⟨t.kind-2,t.text⟩],vh, ?_,ax eE nN,by simp;omega,by omega,kI.out.symm.trans zm.out⟩
      rw[oT];simpa using fF
    case false=>
     have kI:Hid (Ax.bX ae (k+1) i acc=(some (acc++[⟨t.kind-2,t.text⟩]),i+1)):=Ax.oS Z2.out (by rw[Ax.cZ nT.out];simpa using h6)
     go_wp2_with (first | (go_at_call 283;refine(DS _ _ _ _ _ hp _ ht Zr).mono ?_;rintro e w1 ⟨rfl,fW,ft⟩;have bH:=cY au hp ft (by decide);have kV:=ft.size) | (at_builtin;refine wpList_append_own _ rfl (.tmp 14) (.tmp 16) 217 rfl w.heap.size 310 i0 _ 2 24 Tryz.underlying217 hi ew ev dY rfl (by decide) _ _ _ rfl ((bH.alloc _).alloc _) ⟨w1.heap.size+1,0,none⟩ 1 1 [.int .i64 (t.kind-2),.string t.text] rfl rfl (eY _ _ _ _) (by simp[Value.oneCell']) (by unfold maxLen;omega) (by omega) (by simp;omega) ?_;intro v2 w2 aP bx _;obtain⟨jZ,eE⟩:=uq bH fW (ax hg ft) bx;clear bx bH fW) | (go_at_call 223;refine(gq _ _ _ _ _ jZ _ nT _ h6).mono ?_;rintro e w3 ⟨rfl,fH⟩;have fF:=ah aP fH))
     go_ret2
     have e:=zm.out.symm.trans kI.out
     refine⟨by rw[e];exact jZ.below fH,ax eE (aW fH _),.inl ⟨_,acc++[⟨t.kind-2,t.text⟩],rfl,by rw[e], ?_⟩⟩
     rw[oT];simpa using fF
  · have N5:Hid (Ax.bX ae (k+1) i acc=(none,i)):=Ax.DK (Ax.F5 ht.out hk)
    have k2:(t.kind==2)=false:=by simp;omega
    have k3:(t.kind==3)=false:=by simp;omega
    clear hk
    go_wp2_with (go_at_call 283;refine(KL _ _ _ _ _ hp _ ht k2 k3).mono ?_;rintro e w1 ⟨rfl,fW,ft⟩)
    go_ret2
    have e:=zm.out.symm.trans N5.out
    exact⟨by rw[e];exact fW.alloc _,grownBy_alloc (ax hg ft) _,.inr ⟨rfl,by rw[e]⟩⟩
theorem EU(w:World)(pb:Nat)(tv:Value)(ae:List Ax.Tok)(nx j:Nat)(h:dF w pb tv ae nx)(hR:Hid (Ax.bX ae ae.length nx []=(none,j))):
 Calls Tryz.prog 260 #[.pointer (some ⟨pb,0,none⟩)] w fun e w'=>e=.returned (.tuple #[.slice none 0 0,.bool false])∧dF w' pb tv ae j∧w.grownBy w' (some pb):=by
 refine(Aq w pb tv ae nx h).mono ?_
 rintro e w' ⟨hp,hg,hc⟩
 rw[hR.out]at hp hc
 rcases hc with⟨v,ts,_,hn,_⟩ | ⟨rfl,_⟩
 · simp at hn
 · exact⟨rfl,hp,hg⟩
theorem wW(w:World)(pb:Nat)(tv:Value)(ae:List Ax.Tok)(nx j:Nat)(ts:List Ax.Term)(h:dF w pb tv ae nx)(hR:Hid (Ax.bX ae ae.length nx []=(some ts,j))):
 Calls Tryz.prog 260 #[.pointer (some ⟨pb,0,none⟩)] w fun e w'=>∃ad c,e=.returned (.tuple #[.slice ad ts.length c,.bool true])∧dF w' pb tv ae j∧w.grownBy w' (some pb)∧w'.ownsRow w.heap.size 310 2 (.slice ad ts.length c) ts.length (cf ts):=by
 refine(Aq w pb tv ae nx h).mono ?_
 rintro e w' ⟨hp,hg,hc⟩
 rw[hR.out]at hp hc
 rcases hc with⟨v,ts',rfl,hn,au⟩ | ⟨_,hn⟩
 · simp at hn
   subst hn
   obtain⟨a,c,rfl⟩:∃a c,v=.slice a ts.length c:=by
    rcases au.2 with⟨rfl,e⟩ | ⟨g,cap,cur,rfl,_⟩
    · rw[e];exact⟨none,0,rfl⟩
    · exact⟨_,_,rfl⟩
   exact⟨a,c,rfl,hp,hg,au⟩
 · simp at hn
end
/- The parser: atom. -/
section
open Go.RowKit
theorem aj{w:World}{b:Nat}{e:TypeId}{size:Nat}{v:Value}{n:Nat}{xs:List Value}(h:w.ownsRow b e size v n xs):∃a c,v=.slice a n c:=by
 rcases h.2 with⟨rfl,rfl⟩ | ⟨g,cap,cur,rfl,_⟩
 · exact⟨none,0,rfl⟩
 · exact⟨_,_,rfl⟩
theorem iu{w w2:World}{pb:Nat}{tv:Value}{ae:List Ax.Tok}{nx k:Nat}{a b c:Value}(r2:w2.heap[k]?=some (.cells #[a,b,c] 219 (0,0)))(x y z:Value)(gw:w.grownBy w2 (some pb))(hp:dF w2 pb tv ae nx)(hk:w.heap.size≤k):
 (((w2.setCell ⟨k,0,none⟩ x).setCell ⟨k,1,none⟩ y).setCell ⟨k,2,none⟩ z).heap[k]?=some (.cells #[x,y,z] 219 (0,0))∧w.grownBy (((w2.setCell ⟨k,0,none⟩ x).setCell ⟨k,1,none⟩ y).setCell ⟨k,2,none⟩ z) (some pb)∧dF (((w2.setCell ⟨k,0,none⟩ x).setCell ⟨k,1,none⟩ y).setCell ⟨k,2,none⟩ z) pb tv ae nx:=by
 have h0:=heap_setCell_same (off:=0) r2 x
 have h1:=heap_setCell_same (off:=1) h0 y
 have h2:=heap_setCell_same (off:=2) h1 z
 refine⟨by rw[h2];rfl,cV (cV (cV gw hk x) hk y) hk z, ?_⟩
 refine((hp.row (grownBy_setCell _ _) (e':=219) (fun j hj=> ?_) (by decide) (by decide)).row (grownBy_setCell _ _) (e':=219) (fun j hj=> ?_) (by decide) (by decide)).row (grownBy_setCell _ _) (e':=219) (fun j hj=> ?_) (by decide) (by decide)
 · cases hj;exact⟨_,_,r2⟩
 · cases hj;exact⟨_,_,h0⟩
 · cases hj;exact⟨_,_,h1⟩
theorem TQ(w:World)(pb:Nat)(tv:Value)(ae:List Ax.Tok)(nx:Nat)(h:dF w pb tv ae nx)(t:Ax.Tok)(ht:Hid (ae[nx]?=some t))(he:(t.kind==2)=false):
 Calls Tryz.prog 222 #[.pointer (some ⟨pb,0,none⟩)] w fun e w'=>e=.returned (.tuple #[.agg #[.int .i64 0,.string ⟨#[]⟩,.slice none 0 0],.bool false])∧dF w' pb tv ae nx∧w.grownBy w' (some pb):=by
 have vO:=lt_of_heap h.1
 go_enter Tryz.func222,Tryz.ntmps222
 go_wp2_with (first | (go_at_call 105;refine(eI _ _ _ _ _ (h.alloc _) _ ht).mono ?_;rintro e w1 ⟨rfl,bq⟩;rw[World.size_alloc]at bq;have fW:=((h.alloc (.cells #[.int .i64 0,.string ⟨#[]⟩,.slice none 0 0] 219)).below (by rw[World.size_alloc];exact bq)).alloc (.cells #[.int .i64 t.kind,.int .i64 t.at_,.string t.text] 210)) | (go_at_call_of 223 (Value.int IntKind.i64 2);refine(gq _ _ _ _ _ fW _ ht _ he).mono ?_;rintro e w2 ⟨rfl,cw⟩;have jZ:=fW.below cw;have eE:=(aW cw (some pb));obtain⟨t2,r2,O5,YQ,WH⟩:=dU h bq eE;have f02:=aq r2 0;have f12:=aq r2 1;have f22:=aq r2 2;have Tk:=ag r2 0;have IQ:=ag r2 1;have Yk:=ag r2 2;have Xh:=ag t2 1;have XO:=ag t2 2;simp only[List.getElem?_toArray,List.getElem?_cons_zero,List.getElem?_cons_succ]at Xh XO Tk IQ Yk))
 obtain⟨hu,gu,pu⟩:=iu r2 (.int .i64 0) (.string ⟨#[]⟩) (.slice none 0 0) O5 jZ (Nat.le_refl _)
 exact bodyPost_ret (v:=.tuple #[.agg #[.int .i64 0,.string ⟨#[]⟩,.slice none 0 0],.bool false]) (by simp[results,Tryz.results222,go_sem,ag hu]) rfl ⟨rfl,pu,gu⟩
theorem Tm(w:World)(pb:Nat)(tv:Value)(ae:List Ax.Tok)(nx:Nat)(h:dF w pb tv ae nx)(t:Ax.Tok)(ht:Hid (ae[nx]?=some t))(he:(t.kind==2)=true)(t':Ax.Tok)(nT:Hid (ae[nx+1]?=some t'))(h4:(t'.kind==4)=false):
 Calls Tryz.prog 222 #[.pointer (some ⟨pb,0,none⟩)] w fun e w'=>e=.returned (.tuple #[.agg #[.int .i64 0,.string ⟨#[]⟩,.slice none 0 0],.bool false])∧dF w' pb tv ae (nx+1)∧w.grownBy w' (some pb):=by
 have vO:=lt_of_heap h.1
 go_enter Tryz.func222,Tryz.ntmps222
 go_wp2_with (first | (go_at_call 105;refine(eI _ _ _ _ _ (h.alloc _) _ ht).mono ?_;rintro e w1 ⟨rfl,bq⟩;rw[World.size_alloc]at bq;have fW:=((h.alloc (.cells #[.int .i64 0,.string ⟨#[]⟩,.slice none 0 0] 219)).below (by rw[World.size_alloc];exact bq)).alloc (.cells #[.int .i64 t.kind,.int .i64 t.at_,.string t.text] 210)) | (go_at_call_of 223 (Value.int IntKind.i64 2);refine(du _ _ _ _ _ fW _ ht _ (by decide) he).mono ?_;rintro e w2 ⟨rfl,jZ,E6⟩;have eE:=E6) | (go_at_call_of 223 (Value.int IntKind.i64 4);refine(gq _ _ _ _ _ jZ _ nT _ h4).mono ?_;rintro e w3 ⟨rfl,fH⟩;have vh:=jZ.below fH;have nN:=ax eE (aW fH (some pb));obtain⟨t3,r3,WC,VB,UL⟩:=dU h bq nN;have ZK:=aq r3 0;have f13:=aq r3 1;have f23:=aq r3 2;have PJ:=ag r3 0;have Gk:=ag r3 1;have Vk:=ag r3 2;have UW:=ag t3 1;have Uh:=ag t3 2;simp only[List.getElem?_toArray,List.getElem?_cons_zero,List.getElem?_cons_succ]at UW Uh PJ Gk Vk))
 obtain⟨hu,gu,pu⟩:=iu r3 (.int .i64 0) (.string ⟨#[]⟩) (.slice none 0 0) WC vh (Nat.le_refl _)
 exact bodyPost_ret (v:=.tuple #[.agg #[.int .i64 0,.string ⟨#[]⟩,.slice none 0 0],.bool false]) (by simp[results,Tryz.results222,go_sem,ag hu]) rfl ⟨rfl,pu,gu⟩
theorem SZ(w:World)(pb:Nat)(tv:Value)(ae:List Ax.Tok)(nx:Nat)(h:dF w pb tv ae nx)(t:Ax.Tok)(ht:Hid (ae[nx]?=some t))(he:(t.kind==2)=true)(t':Ax.Tok)(nT:Hid (ae[nx+1]?=some t'))(h4:(t'.kind==4)=true)(j:Nat)(hR:Hid (Ax.bX ae ae.length (nx+1+1) []=(none,j))):
 Calls Tryz.prog 222 #[.pointer (some ⟨pb,0,none⟩)] w fun e w'=>e=.returned (.tuple #[.agg #[.int .i64 0,.string ⟨#[]⟩,.slice none 0 0],.bool false])∧dF w' pb tv ae j∧w.grownBy w' (some pb):=by
 have vO:=lt_of_heap h.1
 go_enter Tryz.func222,Tryz.ntmps222
 go_wp2_with (first | (go_at_call 105;refine(eI _ _ _ _ _ (h.alloc _) _ ht).mono ?_;rintro e w1 ⟨rfl,bq⟩;rw[World.size_alloc]at bq;have fW:=((h.alloc (.cells #[.int .i64 0,.string ⟨#[]⟩,.slice none 0 0] 219)).below (by rw[World.size_alloc];exact bq)).alloc (.cells #[.int .i64 t.kind,.int .i64 t.at_,.string t.text] 210)) | (go_at_call_of 223 (Value.int IntKind.i64 2);refine(du _ _ _ _ _ fW _ ht _ (by decide) he).mono ?_;rintro e w2 ⟨rfl,jZ,E6⟩;have eE:=E6) | (go_at_call_of 223 (Value.int IntKind.i64 4);refine(du _ _ _ _ _ jZ _ nT _ (by decide) h4).mono ?_;rintro e w3 ⟨rfl,vh,tm⟩;have nN:=ax eE tm) | (go_at_call 260;refine(EU _ _ _ _ _ _ vh hR).mono ?_;rintro e w4 ⟨rfl,Et,vG⟩;have za:=ax nN vG;obtain⟨t4,r4,Mu,Ko,JZ⟩:=dU h bq za;have UA:=aq r4 0;have f14:=aq r4 1;have f24:=aq r4 2;have Gr:=ag r4 0;have yT:=ag r4 1;have KI:=ag r4 2;have Hb:=ag t4 1;have JK:=ag t4 2;simp only[List.getElem?_toArray,List.getElem?_cons_zero,List.getElem?_cons_succ]at Hb JK Gr yT KI))
 obtain⟨hu,gu,pu⟩:=iu r4 (.int .i64 0) (.string ⟨#[]⟩) (.slice none 0 0) Mu Et (Nat.le_refl _)
 exact bodyPost_ret (v:=.tuple #[.agg #[.int .i64 0,.string ⟨#[]⟩,.slice none 0 0],.bool false]) (by simp[results,Tryz.results222,go_sem,ag hu]) rfl ⟨rfl,pu,gu⟩
theorem Tw(w:World)(pb:Nat)(tv:Value)(ae:List Ax.Tok)(nx:Nat)(h:dF w pb tv ae nx)(t:Ax.Tok)(ht:Hid (ae[nx]?=some t))(he:(t.kind==2)=true)(t':Ax.Tok)(nT:Hid (ae[nx+1]?=some t'))(h4:(t'.kind==4)=true)(j:Nat)(ts:List Ax.Term)(hR:Hid (Ax.bX ae ae.length (nx+1+1) []=(some ts,j)))(t3:Ax.Tok)(Ch:Hid (ae[j]?=some t3))(h5:(t3.kind==5)=false):
 Calls Tryz.prog 222 #[.pointer (some ⟨pb,0,none⟩)] w fun e w'=>∃x y ad n c,e=.returned (.tuple #[.agg #[.int .i64 x,.string y,.slice ad n c],.bool false])∧dF w' pb tv ae j∧w.grownBy w' (some pb):=by
 have vO:=lt_of_heap h.1
 go_enter Tryz.func222,Tryz.ntmps222
 go_wp2_with (first | (go_at_call 105;refine(eI _ _ _ _ _ (h.alloc _) _ ht).mono ?_;rintro e w1 ⟨rfl,bq⟩;rw[World.size_alloc]at bq;have fW:=((h.alloc (.cells #[.int .i64 0,.string ⟨#[]⟩,.slice none 0 0] 219)).below (by rw[World.size_alloc];exact bq)).alloc (.cells #[.int .i64 t.kind,.int .i64 t.at_,.string t.text] 210)) | (go_at_call_of 223 (Value.int IntKind.i64 2);refine(du _ _ _ _ _ fW _ ht _ (by decide) he).mono ?_;rintro e w2 ⟨rfl,jZ,E6⟩;have eE:=E6) | (go_at_call_of 223 (Value.int IntKind.i64 4);refine(du _ _ _ _ _ jZ _ nT _ (by decide) h4).mono ?_;rintro e w3 ⟨rfl,vh,tm⟩;have nN:=ax eE tm) | (go_at_call 260;refine(wW _ _ _ _ _ _ _ vh hR).mono ?_;rintro e w4 ⟨ad,c,rfl,Et,vG,Sy⟩;have za:=ax nN vG;obtain⟨t4,r4,Mu,Ko,JZ⟩:=dU h bq za;have UA:=aq r4 0;have f14:=aq r4 1;have f24:=aq r4 2;have Gr:=ag r4 0;have yT:=ag r4 1;have KI:=ag r4 2;have Hb:=ag t4 1;have JK:=ag t4 2;simp only[List.getElem?_toArray,List.getElem?_cons_zero,List.getElem?_cons_succ]at Hb JK Gr yT KI))
 go_region_with (go_at_call 223;refine(gq _ pb tv ae j (by exact Et) _ Ch _ h5).mono ?_;rintro e w5 ⟨rfl,mN⟩;have Vs:=dF.below (by exact Et) mN;have hg5:=ax (fO za) (aW mN (some pb));obtain⟨t5,r5,gw5,ab6,aaR⟩:=dU h bq hg5;have f05:=aq r5 0;have f15:=aq r5 1;have f25:=aq r5 2;have XX:=ag r5 0;have M6:=ag r5 1;have k25:=ag r5 2;have c15:=ag t5 1;have c25:=ag t5 2;simp only[List.getElem?_toArray,List.getElem?_cons_zero,List.getElem?_cons_succ]at c15 c25 XX M6 k25)
 all_goals (go_wp2_with fail)
 all_goals (obtain⟨hu,gu,pu⟩:=iu r5 (.int .i64 t.at_) (.string t.text) (.slice ad ts.length c) gw5 Vs (Nat.le_refl _))
 all_goals (exact bodyPost_ret (v:=.tuple #[.agg #[.int .i64 t.at_,.string t.text,.slice ad ts.length c],.bool false]) (by simp[results,Tryz.results222,go_sem,ag hu]) rfl ⟨_,_,_,_,_,rfl,pu,gu⟩)
end
/- The parser: atom, whole. -/
section
open Go.RowKit
theorem uY{w2:World}{k:Nat}{a b c:Value}{T:TypeId}(r2:w2.heap[k]?=some (.cells #[a,b,c] T (0,0)))(x y z:Value){bs:Nat}{e:TypeId}{size:Nat}{v:Value}{n:Nat}{xs:List Value}(h:w2.ownsRow bs e size v n xs)(cE:e≠T):
 (((w2.setCell ⟨k,0,none⟩ x).setCell ⟨k,1,none⟩ y).setCell ⟨k,2,none⟩ z).ownsRow bs e size v n xs:=by
 have h0:=heap_setCell_same (off:=0) r2 x
 have h1:=heap_setCell_same (off:=1) h0 y
 refine cX (cX (cX h (grownBy_setCell _ _) (e':=T) (fun j hj=> ?_) cE) (grownBy_setCell _ _) (e':=T) (fun j hj=> ?_) cE) (grownBy_setCell _ _) (e':=T) (fun j hj=> ?_) cE
 · cases hj;exact⟨_,_,r2⟩
 · cases hj;exact⟨_,_,h0⟩
 · cases hj;exact⟨_,_,h1⟩
theorem Vz(w:World)(pb:Nat)(tv:Value)(ae:List Ax.Tok)(nx:Nat)(h:dF w pb tv ae nx)(t:Ax.Tok)(ht:Hid (ae[nx]?=some t))(he:(t.kind==2)=true)(t':Ax.Tok)(nT:Hid (ae[nx+1]?=some t'))(h4:(t'.kind==4)=true)(j:Nat)(ts:List Ax.Term)(hR:Hid (Ax.bX ae ae.length (nx+1+1) []=(some ts,j)))(t3:Ax.Tok)(Ch:Hid (ae[j]?=some t3))(h5:(t3.kind==5)=true):
 Calls Tryz.prog 222 #[.pointer (some ⟨pb,0,none⟩)] w fun e w'=>∃ad c,e=.returned (.tuple #[.agg #[.int .i64 t.at_,.string t.text,.slice ad ts.length c],.bool true])∧dF w' pb tv ae (j+1)∧w.grownBy w' (some pb)∧w'.ownsRow w.heap.size 310 2 (.slice ad ts.length c) ts.length (cf ts):=by
 have vO:=lt_of_heap h.1
 go_enter Tryz.func222,Tryz.ntmps222
 go_wp2_with (first | (go_at_call 105;refine(eI _ _ _ _ _ (h.alloc _) _ ht).mono ?_;rintro e w1 ⟨rfl,bq⟩;rw[World.size_alloc]at bq;have fW:=((h.alloc (.cells #[.int .i64 0,.string ⟨#[]⟩,.slice none 0 0] 219)).below (by rw[World.size_alloc];exact bq)).alloc (.cells #[.int .i64 t.kind,.int .i64 t.at_,.string t.text] 210)) | (go_at_call_of 223 (Value.int IntKind.i64 2);refine(du _ _ _ _ _ fW _ ht _ (by decide) he).mono ?_;rintro e w2 ⟨rfl,jZ,E6⟩;have eE:=E6) | (go_at_call_of 223 (Value.int IntKind.i64 4);refine(du _ _ _ _ _ jZ _ nT _ (by decide) h4).mono ?_;rintro e w3 ⟨rfl,vh,tm⟩;have nN:=ax eE tm) | (go_at_call 260;refine(wW _ _ _ _ _ _ _ vh hR).mono ?_;rintro e w4 ⟨ad,c,rfl,Et,vG,Sy⟩;have za:=ax nN vG;have adq:=(dU h bq nN).2.2.1.size;obtain⟨t4,r4,Mu,Ko,JZ⟩:=dU h bq za;have UA:=aq r4 0;have f14:=aq r4 1;have f24:=aq r4 2;have Gr:=ag r4 0;have yT:=ag r4 1;have KI:=ag r4 2;have Hb:=ag t4 1;have JK:=ag t4 2;simp only[List.getElem?_toArray,List.getElem?_cons_zero,List.getElem?_cons_succ]at Hb JK Gr yT KI))
 go_region_with (go_at_call 223;refine(du _ pb tv ae j (by exact Et) _ Ch _ (by decide) h5).mono ?_;rintro e w5 ⟨rfl,Vs,WI⟩;have hg5:=ax (fO za) WI;have Mq:=cY (w:=w4.drew) Sy (by exact Et) WI (by decide);obtain⟨t5,r5,gw5,ab6,aaR⟩:=dU h bq hg5;have f05:=aq r5 0;have f15:=aq r5 1;have f25:=aq r5 2;have XX:=ag r5 0;have M6:=ag r5 1;have k25:=ag r5 2;have c15:=ag t5 1;have c25:=ag t5 2;simp only[List.getElem?_toArray,List.getElem?_cons_zero,List.getElem?_cons_succ]at c15 c25 XX M6 k25)
 all_goals (go_wp2_with fail)
 all_goals (obtain⟨hu,gu,pu⟩:=iu r5 (.int .i64 t.at_) (.string t.text) (.slice ad ts.length c) gw5 Vs (Nat.le_refl _))
 all_goals (exact bodyPost_ret (v:=.tuple #[.agg #[.int .i64 t.at_,.string t.text,.slice ad ts.length c],.bool true]) (by simp[results,Tryz.results222,go_sem,ag hu]) rfl ⟨_,_,rfl,pu,gu,aE (uY r5 _ _ _ Mq (by decide)) adq⟩)
theorem Dp(w:World)(pb:Nat)(tv:Value)(ae:List Ax.Tok)(nx:Nat)(h:dF w pb tv ae nx):
 Calls Tryz.prog 222 #[.pointer (some ⟨pb,0,none⟩)] w fun e w'=>dF w' pb tv ae (Ax.b8 ae nx).2∧w.grownBy w' (some pb)∧
  ((∃ad c a,e=.returned (.tuple #[.agg #[.int .i64 a.at_,.string a.pred,.slice ad a.ak.length c],.bool true])∧(Ax.b8 ae nx).1=some a∧w'.ownsRow w.heap.size 310 2 (.slice ad a.ak.length c) a.ak.length (cf a.ak))∨
   (∃x y ad n c,e=.returned (.tuple #[.agg #[.int .i64 x,.string y,.slice ad n c],.bool false])∧(Ax.b8 ae nx).1=none)):=by
 obtain⟨t,ht⟩:∃t,ae[nx]?=some t:=⟨_,List.getElem?_eq_getElem h.2.2.1⟩
 by_cases he:t.kind=2
 case neg=>
  rw[Ax.IC ht he]
  refine(TQ w pb tv ae nx h t ht (by simpa using he)).mono ?_
  rintro e w' ⟨rfl,hp,hg⟩
  exact⟨hp,hg,.inr ⟨_,_,_,_,_,rfl,rfl⟩⟩
 have yg:nx+1<ae.length:=by
  obtain⟨hl,e⟩:=rP ht
  exact h.2.2.2.2.next hl (by rw[e];omega) (by rw[e];omega)
 obtain⟨t',nT⟩:∃t,ae[nx+1]?=some t:=⟨_,List.getElem?_eq_getElem yg⟩
 have A0:=Ax.cZ nT
 by_cases h4:t'.kind=4
 case neg=>
  rw[Ax.GX ht he (by rw[A0];exact h4)]
  refine(Tm w pb tv ae nx h t ht (by simpa using he) t' nT (by simpa using h4)).mono ?_
  rintro e w' ⟨rfl,hp,hg⟩
  exact⟨hp,hg,.inr ⟨_,_,_,_,_,rfl,rfl⟩⟩
 have h4k:Ax.aM ae (nx+1)=4:=by rw[A0];exact h4
 have CL:nx+1+1<ae.length:=by
  obtain⟨hl,e⟩:=rP nT
  exact h.2.2.2.2.next hl (by rw[e];omega) (by rw[e];omega)
 rcases hR:Ax.bX ae ae.length (nx+1+1) []with⟨_ | ts,j⟩
 · rw[Ax.IE ht he h4k hR]
   refine(SZ w pb tv ae nx h t ht (by simpa using he) t' nT (by simpa using h4) j hR).mono ?_
   rintro e w' ⟨rfl,hp,hg⟩
   exact⟨hp,hg,.inr ⟨_,_,_,_,_,rfl,rfl⟩⟩
 · have hj:j<ae.length:=Ax.pj h.2.2.2.2 _ _ _ CL hR
   obtain⟨t3,Ch⟩:∃t,ae[j]?=some t:=⟨_,List.getElem?_eq_getElem hj⟩
   have Ig:=Ax.cZ Ch
   by_cases h5:t3.kind=5
   · rw[Ax.Bm ht he h4k hR (by rw[Ig];exact h5)]
     refine(Vz w pb tv ae nx h t ht (by simpa using he) t' nT (by simpa using h4) j ts hR t3 Ch (by simpa using h5)).mono ?_
     rintro e w' ⟨ad,c,rfl,hp,hg,au⟩
     exact⟨hp,hg,.inl ⟨ad,c,⟨t.at_,t.text,ts⟩,rfl,rfl,au⟩⟩
   · rw[Ax.Ib ht he h4k hR (by rw[Ig];exact h5)]
     refine(Tw w pb tv ae nx h t ht (by simpa using he) t' nT (by simpa using h4) j ts hR t3 Ch (by simpa using h5)).mono ?_
     rintro e w' ⟨x,y,ad,n,c,rfl,hp,hg⟩
     exact⟨hp,hg,.inr ⟨_,_,_,_,_,rfl,rfl⟩⟩
end
end Go.Proofs.YtdmicblafmhflaaGreatDoor

/- The parser: atoms. -/
import Derived.Test.YtdmicblafmhflaaGreatDoorC05
import Derived.Test.YtdmicblafmhflaaGreatDoorC00
set_option linter.unusedSimpArgs false
set_option linter.unusedVariables false
set_option maxHeartbeats 2000000
namespace Go.Proofs.YtdmicblafmhflaaGreatDoor
section
open Go.RowKit
abbrev MA:=Ax.Atom×Value
def MA.ok(w:World)(x:MA):Prop:=w.ownsRow 0 310 2 x.2 x.1.ag.length (b9 x.1.ag)
def bl(l:List MA):List Value:=l.flatMap fun x=>[.int .i64 x.1.at_,.string x.1.pred,x.2]
theorem o8(l:List MA)(x:MA):bl (l++[x])=bl l++[.int .i64 x.1.at_,.string x.1.pred,x.2]:=by simp[bl]
def tA(w:World)(l:List MA):Prop:=∀x,x∈l→x.ok w
theorem Tryz.EN:(Tryz.prog.info? 219).map (fun i=>(i.zero,i.size,i.bytes))=some (some (.agg #[.int .i64 0,.string ByteArray.empty,.slice none 0 0]),3,48):=by kernel_rfl
theorem Iu(w:World):tA w []:=fun _ h=>by cases h
theorem mn{w w':World}{l:List MA}(h:tA w l)(hb:Below w.heap.size w w'):tA w' l:=fun x hx=>af (h x hx) hb
theorem Ej{w w':World}{l:List MA}{row:Option Nat}{e':TypeId}(h:tA w l)(hg:w.grownBy w' row)(hr:∀k,row=some k→∃cur fz,w.heap[k]?=some (.cells cur e' fz))(cL:310≠e'):tA w' l:=
 fun x hx=>cV (h x hx) hg hr cL
theorem qO{w w':World}{l:List MA}{pb:Nat}{tv:Value}{aa:List Ax.Tok}{nx:Nat}(h:tA w l)(hp:dg w pb tv aa nx)(hg:w.grownBy w' (some pb)):tA w' l:=
 fun x hx=>cY (h x hx) hp hg (by decide)
theorem Pg{w:World}{l:List MA}{x:MA}(h:tA w l)(hx:x.ok w):tA w (l++[x]):=by
 intro y hy
 rcases List.mem_append.1 hy with hy | hy
 · exact h y hy
 · simp at hy;subst hy;exact hx
theorem ji(w:World)(pb:Nat)(tv:Value)(aa:List Ax.Tok)(nx j:Nat)(a:Ax.Atom)(h:dg w pb tv aa nx)(hR:Hid (Ax.bQ aa nx=(some a,j))):
 Calls Tryz.prog 222 #[.pointer (some ⟨pb,0,none⟩)] w fun e w'=>∃ad c,e=.returned (.tuple #[.agg #[.int .i64 a.at_,.string a.pred,.slice ad a.ag.length c],.bool true])∧dg w' pb tv aa j∧w.grownBy w' (some pb)∧MA.ok w' (a,.slice ad a.ag.length c):=by
 refine(E5 w pb tv aa nx h).mono ?_
 rintro e w' ⟨hp,hg,hc⟩
 rw[hR.out]at hp hc
 rcases hc with⟨ad,c,a',rfl,hn,aj⟩ | ⟨_,_,_,_,_,_,hn⟩
 · simp at hn;subst hn
   exact⟨ad,c,rfl,hp,hg,aN aj (Nat.zero_le _)⟩
 · simp at hn
theorem Bj(w:World)(pb:Nat)(tv:Value)(aa:List Ax.Tok)(nx j:Nat)(h:dg w pb tv aa nx)(hR:Hid (Ax.bQ aa nx=(none,j))):
 Calls Tryz.prog 222 #[.pointer (some ⟨pb,0,none⟩)] w fun e w'=>∃x y ad n c,e=.returned (.tuple #[.agg #[.int .i64 x,.string y,.slice ad n c],.bool false])∧dg w' pb tv aa j∧w.grownBy w' (some pb):=by
 refine(E5 w pb tv aa nx h).mono ?_
 rintro e w' ⟨hp,hg,hc⟩
 rw[hR.out]at hp hc
 rcases hc with⟨ad,c,a',_,hn,_⟩ | ⟨x,y,ad,n,c,rfl,hn⟩
 · simp at hn
 · exact⟨x,y,ad,n,c,rfl,hp,hg⟩
theorem uv{w w1 w2:World}{pb:Nat}{tv v:Value}{aa:List Ax.Tok}{nx n:Nat}{xs:List Value}{o1 o2:Obj}{l:List MA}{x:MA}(bj:w1.ownsRow w.heap.size 219 3 v n xs)(fZ:dg w1 pb tv aa nx)(hg:w.grownBy w1 (some pb))(cB:tA w1 l)(hx:x.ok w1)
 (bx:((w1.alloc o1).alloc o2).grownBy w2 v.ownBlock):dg w2 pb tv aa nx∧w.grownBy w2 (some pb)∧tA w2 (l++[x]):=
 ⟨((fZ.alloc o1).alloc o2).row bx (cu ((bj.alloc o1).alloc o2)) (by decide) (by decide),
  oZ (grownBy_alloc (grownBy_alloc hg _) _) bx (fun k hk=>(bj.lt k hk).1),
  Ej (w:=(w1.alloc o1).alloc o2) (fun y hy=>World.ownsRow.alloc (World.ownsRow.alloc (Pg cB hx y hy) _) _) bx (cu ((bj.alloc o1).alloc o2)) (by decide)⟩
def MF(w wr:World)(pb:Nat)(tv:Value)(aa:List Ax.Tok)(v:Value)(nx k:Nat)(acc:List MA)(R:Option (List Ax.Atom)×Nat):Prop:=
 dg wr pb tv aa nx∧wr.ownsRow w.heap.size 219 3 v acc.length (bl acc)∧tA wr acc∧w.grownBy wr (some pb)∧acc.length≤nx∧aa.length≤nx+k∧Ax.bL aa k nx (acc.map Prod.fst)=R
theorem Bt(w:World)(pb:Nat)(tv:Value)(aa:List Ax.Tok)(nx:Nat)(h:dg w pb tv aa nx):
 Calls Tryz.prog 224 #[.pointer (some ⟨pb,0,none⟩)] w fun e w'=>dg w' pb tv aa (Ax.bL aa aa.length nx []).2∧w.grownBy w' (some pb)∧
  ((∃v l,e=.returned (.tuple #[v,.bool true])∧(Ax.bL aa aa.length nx []).1=some (l.map Prod.fst)∧w'.ownsRow w.heap.size 219 3 v l.length (bl l)∧tA w' l)∨
   (e=.returned (.tuple #[.slice none 0 0,.bool false])∧(Ax.bL aa aa.length nx []).1=none)):=by
 obtain⟨i0,hi,eX,eP,eA⟩:=info_parts Tryz.EN
 generalize hR:Ax.bL aa aa.length nx []=R
 have yB:=lt_of_heap h.1
 go_enter Tryz.func224,Tryz.ntmps224
 go_wp2_with fail
 go_loopg [4] aa.length (fun k v wr=>∃(i:Nat) (acc:List MA),MF w wr pb tv aa v i k acc R)
 case atStart=>exact⟨nx,[],h,World.ownsRow_nil _ _ _ _,Iu _,ic _ _,Nat.zero_le _,by omega,hR⟩
 case round=>
  obtain⟨i,acc,hp,aj,cB,hg,PE,hlen,hr⟩:=hrel
  have aC:=hp.2.2.1
  have hle:=hp.2.2.2.1
  have l7:=hp.2.2.2.2
  have cr:=hg.size
  cases gk with
  | zero=>omega
  | succ k=>
  have Bw:Hid (Ax.bL aa (k+1) i (acc.map Prod.fst)=R):=hr
  clear hr hR
  rcases FN:Ax.bQ aa i with⟨_ | a,j⟩
  · have hA:Hid (Ax.bQ aa i=(none,j)):=FN
    clear FN
    go_wp2_with (go_at_call 222;refine(Bj _ _ _ _ _ _ hp hA).mono ?_;rintro e w1 ⟨x,y,ad,n,c,rfl,fZ,fA⟩)
    go_ret2
    have e:=Bw.out.symm.trans (Ax.gX hA.out)
    exact⟨by rw[e];exact fZ.alloc _,grownBy_alloc (al hg fA) _,.inr ⟨rfl,by rw[e]⟩⟩
  · have hA:Hid (Ax.bQ aa i=(some a,j)):=FN
    have YH:=Ax.rz FN
    have hj:=Ax.kL l7 aC FN
    clear FN
    obtain⟨t',LW⟩:∃t,aa[j]?=some t:=⟨_,List.getElem?_eq_getElem hj⟩
    have oh:Hid (aa[j]?=some t'):=LW
    clear LW
    cases h6:(t'.kind==6)
    case true=>
     have mK:Hid (Ax.bL aa (k+1) i (acc.map Prod.fst)=Ax.bL aa k (j+1) (acc.map Prod.fst++[a])):=Ax.iP hA.out (by rw[Ax.cZ oh.out];simpa using h6)
     go_wp2_with (first | (go_at_call 222;refine(ji _ _ _ _ _ _ _ hp hA).mono ?_;rintro e w1 ⟨ad,c,rfl,fZ,fA,qG⟩;have bj:=cY aj hp fA (by decide);have kW:=fA.size;have oa:=qO cB hp fA) | (at_builtin;refine wpList_append_own _ rfl (.tmp 14) (.tmp 16) 220 rfl w.heap.size 219 i0 _ 3 48 Tryz.underlying220 hi eX eP eA rfl (by decide) _ _ _ rfl ((bj.alloc _).alloc _) ⟨w1.heap.size+1,0,none⟩ 1 1 [.int .i64 a.at_,.string a.pred,.slice ad a.ag.length c] rfl rfl (eM _ _ _ _) (by simp[Value.oneCell']) (by unfold maxLen;omega) (by omega) (by simp;omega) ?_;intro v2 w2 aO bx _;obtain⟨iI,dL,th⟩:=uv bj fZ (al hg fA) oa qG bx;clear bx bj fZ oa qG) | (go_at_call 223;refine(dm _ _ _ _ _ iI _ oh _ (by decide) h6).mono ?_;rintro e w3 ⟨rfl,vj,nB⟩;have fG:=cY aO iI nB (by decide);have KP:=qO th iI nB))
     go_roundg k
     case measure=>omega
     case rel=>
      refine⟨j+1,acc++[(a,.slice ad a.ag.length c)],vj, ?_,KP,al dL nB,by simp;omega,by omega, ?_⟩
      · rw[o8];simpa using fG
      · rw[List.map_append];exact mK.out.symm.trans Bw.out
    case false=>
     have mK:Hid (Ax.bL aa (k+1) i (acc.map Prod.fst)=(some (acc.map Prod.fst++[a]),j)):=Ax.fJ hA.out (by rw[Ax.cZ oh.out];simpa using h6)
     go_wp2_with (first | (go_at_call 222;refine(ji _ _ _ _ _ _ _ hp hA).mono ?_;rintro e w1 ⟨ad,c,rfl,fZ,fA,qG⟩;have bj:=cY aj hp fA (by decide);have kW:=fA.size;have oa:=qO cB hp fA) | (at_builtin;refine wpList_append_own _ rfl (.tmp 14) (.tmp 16) 220 rfl w.heap.size 219 i0 _ 3 48 Tryz.underlying220 hi eX eP eA rfl (by decide) _ _ _ rfl ((bj.alloc _).alloc _) ⟨w1.heap.size+1,0,none⟩ 1 1 [.int .i64 a.at_,.string a.pred,.slice ad a.ag.length c] rfl rfl (eM _ _ _ _) (by simp[Value.oneCell']) (by unfold maxLen;omega) (by omega) (by simp;omega) ?_;intro v2 w2 aO bx _;obtain⟨iI,dL,th⟩:=uv bj fZ (al hg fA) oa qG bx;clear bx bj fZ oa qG) | (go_at_call 223;refine(gx _ _ _ _ _ iI _ oh _ h6).mono ?_;rintro e w3 ⟨rfl,eB⟩;have fG:=af aO eB;have KP:=mn th eB))
     go_ret2
     have e:=Bw.out.symm.trans mK.out
     refine⟨by rw[e];exact iI.below eB,al dL (aT eB _),.inl ⟨_,acc++[(a,.slice ad a.ag.length c)],rfl,by rw[e];simp, ?_,KP⟩⟩
     rw[o8];simpa using fG
end
/- The parser: rule. -/
section
open Go.RowKit
structure MR where
 head:MA
 bv:Value
 body:List MA
def MR.ok(w:World)(r:MR):Prop:=r.head.ok w∧w.ownsRow 0 219 3 r.bv r.body.length (bl r.body)∧tA w r.body
def MR.ak(r:MR):Ax.aP:=⟨r.head.1,r.body.map Prod.fst⟩
theorem MA.alloc{w:World}{x:MA}(h:MA.ok w x)(o:Obj):MA.ok (w.alloc o) x:=World.ownsRow.alloc h o
theorem MA.step{w w':World}{x:MA}{pb:Nat}{tv:Value}{aa:List Ax.Tok}{nx:Nat}(h:MA.ok w x)(hp:dg w pb tv aa nx)(hg:w.grownBy w' (some pb)):MA.ok w' x:=cY h hp hg (by decide)
theorem MR.type{w w':World}{r:MR}{row:Option Nat}{e':TypeId}(h:MR.ok w r)(hg:w.grownBy w' row)(hr:∀k,row=some k→∃cur fz,w.heap[k]?=some (.cells cur e' fz))(h1:310≠e')(h2:219≠e'):MR.ok w' r:=
 ⟨cV h.1 hg hr h1,cV h.2.1 hg hr h2,Ej h.2.2 hg hr h1⟩
theorem MR.step{w w':World}{r:MR}{pb:Nat}{tv:Value}{aa:List Ax.Tok}{nx:Nat}(h:MR.ok w r)(hp:dg w pb tv aa nx)(hg:w.grownBy w' (some pb)):MR.ok w' r:=
 ⟨MA.step h.1 hp hg,cY h.2.1 hp hg (by decide),qO h.2.2 hp hg⟩
theorem MR.below{w w':World}{r:MR}(h:MR.ok w r)(hb:Below w.heap.size w w'):MR.ok w' r:=⟨af h.1 hb,af h.2.1 hb,mn h.2.2 hb⟩
theorem F2(w:World)(pb:Nat)(tv:Value)(aa:List Ax.Tok)(nx j:Nat)(h:dg w pb tv aa nx)(hR:Hid (Ax.bL aa aa.length nx []=(none,j))):
 Calls Tryz.prog 224 #[.pointer (some ⟨pb,0,none⟩)] w fun e w'=>e=.returned (.tuple #[.slice none 0 0,.bool false])∧dg w' pb tv aa j∧w.grownBy w' (some pb):=by
 refine(Bt w pb tv aa nx h).mono ?_
 rintro e w' ⟨hp,hg,hc⟩
 rw[hR.out]at hp hc
 rcases hc with⟨v,ts,_,hn,_⟩ | ⟨rfl,_⟩
 · simp at hn
 · exact⟨rfl,hp,hg⟩
theorem yb(w:World)(pb:Nat)(tv:Value)(aa:List Ax.Tok)(nx j:Nat)(b:List Ax.Atom)(h:dg w pb tv aa nx)(hR:Hid (Ax.bL aa aa.length nx []=(some b,j))):
 Calls Tryz.prog 224 #[.pointer (some ⟨pb,0,none⟩)] w fun e w'=>∃bd d l,e=.returned (.tuple #[.slice bd (List.length l) d,.bool true])∧Hid (l.map Prod.fst=b)∧dg w' pb tv aa j∧w.grownBy w' (some pb)∧w'.ownsRow 0 219 3 (.slice bd l.length d) l.length (bl l)∧tA w' l:=by
 refine(Bt w pb tv aa nx h).mono ?_
 rintro e w' ⟨hp,hg,hc⟩
 rw[hR.out]at hp hc
 rcases hc with⟨v,l,rfl,hn,aj,cB⟩ | ⟨_,hn⟩
 · obtain⟨a,c,rfl⟩:=ah aj
   simp only[Option.some.injEq]at hn
   exact⟨a,c,l,rfl,hn.symm,hp,hg,aN aj (Nat.zero_le _),cB⟩
 · simp at hn
theorem eN{w w1 w2:World}{pb:Nat}{tv:Value}{aa:List Ax.Tok}{nx:Nat}{o1 o2:Obj}(h:dg w pb tv aa nx)(fA:(w.alloc o1).grownBy w1 (some pb))(dL:(w1.alloc o2).grownBy w2 (some pb)):
 w2.heap[w1.heap.size]?=some o2∧w2.heap[w.heap.size]?=some o1∧w.grownBy w2 (some pb)∧w.heap.size<w1.heap.size∧w1.heap.size<w2.heap.size:=by
 have hp:=lt_of_heap h.1
 have kW:=fA.size
 have vI:=dL.size
 simp only[World.size_alloc]at kW vI
 refine⟨?_, ?_, ?_,by omega,by omega⟩
 · rw[dL.block _ (by simp) (by simp;omega)]
   exact heap_alloc_new _ _
 · rw[dL.block _ (by simp;omega) (by simp;omega),Below.heap_alloc _ _ _ (by omega),fA.block _ (by simp) (by simp;omega)]
   exact heap_alloc_new _ _
 · exact al (al (al (World.grownBy_alloc w o1 _) fA) (World.grownBy_alloc _ _ _)) dL
theorem sy{w2:World}{k:Nat}{a b c d:Value}{T:TypeId}(r2:w2.heap[k]?=some (.cells #[a,b,c,d] T (0,0)))(x y z u:Value):
 ∃w3 w4 w5,w3=w2.setCell ⟨k,0,none⟩ x∧w4=w3.setCell ⟨k,1,none⟩ y∧w5=w4.setCell ⟨k,2,none⟩ z∧
  (∀w' row,(w'=w3∨w'=w4∨w'=w5∨w'=w2)→row=some k→∃cur fz,w'.heap[k]?=some (.cells cur T fz))∧
  ((((w2.setCell ⟨k,0,none⟩ x).setCell ⟨k,1,none⟩ y).setCell ⟨k,2,none⟩ z).setCell ⟨k,3,none⟩ u).heap[k]?=some (.cells #[x,y,z,u] T (0,0)):=by
 have h0:=heap_setCell_same (off:=0) r2 x
 have h1:=heap_setCell_same (off:=1) h0 y
 have h2:=heap_setCell_same (off:=2) h1 z
 have h3:=heap_setCell_same (off:=3) h2 u
 refine⟨_,_,_,rfl,rfl,rfl, ?_,by rw[h3];rfl⟩
 rintro w' row (rfl | rfl | rfl | rfl) _
 · exact⟨_,_,h0⟩
 · exact⟨_,_,h1⟩
 · exact⟨_,_,h2⟩
 · exact⟨_,_,r2⟩
theorem gT{w w2:World}{pb:Nat}{tv:Value}{aa:List Ax.Tok}{nx k:Nat}{a b c d:Value}(r2:w2.heap[k]?=some (.cells #[a,b,c,d] 222 (0,0)))(x y z u:Value)(gw:w.grownBy w2 (some pb))(hp:dg w2 pb tv aa nx)(hk:w.heap.size≤k):
 ((((w2.setCell ⟨k,0,none⟩ x).setCell ⟨k,1,none⟩ y).setCell ⟨k,2,none⟩ z).setCell ⟨k,3,none⟩ u).heap[k]?=some (.cells #[x,y,z,u] 222 (0,0))∧w.grownBy ((((w2.setCell ⟨k,0,none⟩ x).setCell ⟨k,1,none⟩ y).setCell ⟨k,2,none⟩ z).setCell ⟨k,3,none⟩ u) (some pb)∧dg ((((w2.setCell ⟨k,0,none⟩ x).setCell ⟨k,1,none⟩ y).setCell ⟨k,2,none⟩ z).setCell ⟨k,3,none⟩ u) pb tv aa nx:=by
 obtain⟨_,_,_,rfl,rfl,rfl,ml,dU⟩:=sy r2 x y z u
 refine⟨dU,cX (cX (cX (cX gw hk x) hk y) hk z) hk u, ?_⟩
 refine(((hp.row (grownBy_setCell _ _) (e':=222) (fun j hj=> ?_) (by decide) (by decide)).row (grownBy_setCell _ _) (e':=222) (fun j hj=> ?_) (by decide) (by decide)).row (grownBy_setCell _ _) (e':=222) (fun j hj=> ?_) (by decide) (by decide)).row (grownBy_setCell _ _) (e':=222) (fun j hj=> ?_) (by decide) (by decide)
 all_goals (cases hj)
 · exact ml _ _ (.inr (.inr (.inr rfl))) rfl
 · exact ml _ _ (.inl rfl) rfl
 · exact ml _ _ (.inr (.inl rfl)) rfl
 · exact ml _ _ (.inr (.inr (.inl rfl))) rfl
theorem MR.sy{w2:World}{k:Nat}{a b c d:Value}(r2:w2.heap[k]?=some (.cells #[a,b,c,d] 222 (0,0)))(x y z u:Value){r:MR}(h:MR.ok w2 r):
 MR.ok ((((w2.setCell ⟨k,0,none⟩ x).setCell ⟨k,1,none⟩ y).setCell ⟨k,2,none⟩ z).setCell ⟨k,3,none⟩ u) r:=by
 obtain⟨_,_,_,rfl,rfl,rfl,ml,dU⟩:=Go.Proofs.YtdmicblafmhflaaGreatDoor.sy r2 x y z u
 refine MR.type (MR.type (MR.type (MR.type h (grownBy_setCell _ _) (e':=222) (fun j hj=> ?_) (by decide) (by decide)) (grownBy_setCell _ _) (e':=222) (fun j hj=> ?_) (by decide) (by decide)) (grownBy_setCell _ _) (e':=222) (fun j hj=> ?_) (by decide) (by decide)) (grownBy_setCell _ _) (e':=222) (fun j hj=> ?_) (by decide) (by decide)
 all_goals (cases hj)
 · exact ml _ _ (.inr (.inr (.inr rfl))) rfl
 · exact ml _ _ (.inl rfl) rfl
 · exact ml _ _ (.inr (.inl rfl)) rfl
 · exact ml _ _ (.inr (.inr (.inl rfl))) rfl
theorem Fc{w w1:World}{pb:Nat}{tv:Value}{aa:List Ax.Tok}{nx:Nat}{o1:Obj}(h:dg w pb tv aa nx)(fA:(w.alloc o1).grownBy w1 (some pb)):
 w1.heap[w.heap.size]?=some o1∧w.grownBy w1 (some pb)∧w.heap.size<w1.heap.size:=by
 have hp:=lt_of_heap h.1
 have kW:=fA.size
 simp only[World.size_alloc]at kW
 refine⟨?_,al (World.grownBy_alloc w o1 _) fA,by omega⟩
 rw[fA.block _ (by simp) (by simp;omega)]
 exact heap_alloc_new _ _
theorem Vf(w:World)(pb:Nat)(tv:Value)(aa:List Ax.Tok)(nx:Nat)(h:dg w pb tv aa nx)(j:Nat)(hA:Hid (Ax.bQ aa nx=(none,j))):
 Calls Tryz.prog 179 #[.pointer (some ⟨pb,0,none⟩)] w fun e w'=>∃x y ad n c bd m d,e=.returned (.tuple #[.agg #[.int .i64 x,.string y,.slice ad n c,.slice bd m d],.bool false])∧dg w' pb tv aa j∧w.grownBy w' (some pb):=by
 have yB:=lt_of_heap h.1
 go_enter Tryz.func179,Tryz.ntmps179
 go_wp2_with (go_at_call 222;refine(Bj _ _ _ _ _ _ (h.alloc _) hA).mono ?_;rintro e w1 ⟨x,y,ad,n,c,rfl,fZ,fA⟩;obtain⟨r1,J5,RM⟩:=Fc h fA;have f0:=ae r1 0;have f1:=ae r1 1;have f2:=ae r1 2;have f3:=ae r1 3;have k0:=ab r1 0;have k1:=ab r1 1;have k2:=ab r1 2;have k3:=ab r1 3;simp only[List.getElem?_toArray,List.getElem?_cons_zero,List.getElem?_cons_succ]at k0 k1 k2 k3)
 obtain⟨hu,gu,pu⟩:=gT r1 (.int .i64 0) (.string ⟨#[]⟩) (.slice none 0 0) (.slice none 0 0) J5 fZ (Nat.le_refl _)
 have hu':=(Below.heap_alloc _ (.cells #[.int .i64 x,.string y,.slice ad n c] 219) _ (lt_of_heap hu)).trans hu
 exact bodyPost_ret (v:=.tuple #[.agg #[.int .i64 0,.string ⟨#[]⟩,.slice none 0 0,.slice none 0 0],.bool false]) (by simp[results,Tryz.results179,go_sem,ab hu']) rfl ⟨_,_,_,_,_,_,_,_,rfl,pu.alloc _,grownBy_alloc gu _⟩
theorem UZ(w:World)(pb:Nat)(tv:Value)(aa:List Ax.Tok)(nx:Nat)(h:dg w pb tv aa nx)(j:Nat)(a:Ax.Atom)(hA:Hid (Ax.bQ aa nx=(some a,j)))(t1:Ax.Tok)(yT:Hid (aa[j]?=some t1))(h8:(t1.kind==8)=true)(j2:Nat)(hB:Hid (Ax.bL aa aa.length (j+1) []=(none,j2))):
 Calls Tryz.prog 179 #[.pointer (some ⟨pb,0,none⟩)] w fun e w'=>∃x y ad n c bd m d,e=.returned (.tuple #[.agg #[.int .i64 x,.string y,.slice ad n c,.slice bd m d],.bool false])∧dg w' pb tv aa j2∧w.grownBy w' (some pb):=by
 have yB:=lt_of_heap h.1
 go_enter Tryz.func179,Tryz.ntmps179
 go_wp2_with (first | (go_at_call 222;refine(ji _ _ _ _ _ _ _ (h.alloc _) hA).mono ?_;rintro e w1 ⟨ad,c,rfl,CQ,fA,qG⟩;have fZ:=CQ.alloc (.cells #[.int .i64 a.at_,.string a.pred,.slice ad a.ag.length c] 219);have oa:=MA.alloc qG (.cells #[.int .i64 a.at_,.string a.pred,.slice ad a.ag.length c] 219)) | (go_at_call_of 223 (Value.int IntKind.i64 8);refine(dm _ _ _ _ _ fZ _ yT _ (by decide) h8).mono ?_;rintro e w2 ⟨rfl,iI,dL⟩;have th:=MA.step oa fZ dL) | (go_at_call 224;refine(F2 _ _ _ _ _ _ iI hB).mono ?_;rintro e w3 ⟨rfl,vj,tM⟩;have nB:=al dL tM;obtain⟨t3,r3,YA,U8,Uc⟩:=eN h fA nB;have Q2:=ae r3 0;have f13:=ae r3 1;have f23:=ae r3 2;have f33:=ae r3 3;have CR:=ab r3 0;have vA:=ab r3 1;have Uy:=ab r3 2;have ZY:=ab r3 3;have YG:=ab t3 0;have V6:=ab t3 1;have We:=ab t3 2;simp only[List.getElem?_toArray,List.getElem?_cons_zero,List.getElem?_cons_succ]at YG V6 We CR vA Uy ZY))
 obtain⟨hu,gu,pu⟩:=gT r3 (.int .i64 0) (.string ⟨#[]⟩) (.slice none 0 0) (.slice none 0 0) YA vj (Nat.le_refl _)
 exact bodyPost_ret (v:=.tuple #[.agg #[.int .i64 0,.string ⟨#[]⟩,.slice none 0 0,.slice none 0 0],.bool false]) (by simp[results,Tryz.results179,go_sem,ab hu]) rfl ⟨_,_,_,_,_,_,_,_,rfl,pu,gu⟩
end
/- The parser: rule, its last region. -/
section
open Go.RowKit
theorem VQ(w:World)(pb:Nat)(tv:Value)(aa:List Ax.Tok)(nx:Nat)(h:dg w pb tv aa nx)(j:Nat)(a:Ax.Atom)(hA:Hid (Ax.bQ aa nx=(some a,j)))(t1:Ax.Tok)(yT:Hid (aa[j]?=some t1))(h8:(t1.kind==8)=true)(j2:Nat)(b:List Ax.Atom)(hB:Hid (Ax.bL aa aa.length (j+1) []=(some b,j2)))(t2:Ax.Tok)(tY:Hid (aa[j2]?=some t2))(h7:(t2.kind==7)=false):
 Calls Tryz.prog 179 #[.pointer (some ⟨pb,0,none⟩)] w fun e w'=>∃x y ad n c bd m d,e=.returned (.tuple #[.agg #[.int .i64 x,.string y,.slice ad n c,.slice bd m d],.bool false])∧dg w' pb tv aa j2∧w.grownBy w' (some pb):=by
 have yB:=lt_of_heap h.1
 go_enter Tryz.func179,Tryz.ntmps179
 go_wp2_with (first | (go_at_call 222;refine(ji _ _ _ _ _ _ _ (h.alloc _) hA).mono ?_;rintro e w1 ⟨ad,c,rfl,CQ,fA,qG⟩;have fZ:=CQ.alloc (.cells #[.int .i64 a.at_,.string a.pred,.slice ad a.ag.length c] 219);have oa:=MA.alloc qG (.cells #[.int .i64 a.at_,.string a.pred,.slice ad a.ag.length c] 219)) | (go_at_call_of 223 (Value.int IntKind.i64 8);refine(dm _ _ _ _ _ fZ _ yT _ (by decide) h8).mono ?_;rintro e w2 ⟨rfl,iI,dL⟩;have th:=MA.step oa fZ dL) | (go_at_call 224;refine(yb _ _ _ _ _ _ _ iI hB).mono ?_;rintro e w3 ⟨bd,d,l,rfl,hl,vj,tM,ss,jt⟩;have nB:=al dL tM;have KP:=MA.step th iI tM;obtain⟨t3,r3,YA,U8,Uc⟩:=eN h fA nB;have Q2:=ae r3 0;have f13:=ae r3 1;have f23:=ae r3 2;have f33:=ae r3 3;have CR:=ab r3 0;have vA:=ab r3 1;have Uy:=ab r3 2;have ZY:=ab r3 3;have YG:=ab t3 0;have V6:=ab t3 1;have We:=ab t3 2;simp only[List.getElem?_toArray,List.getElem?_cons_zero,List.getElem?_cons_succ]at YG V6 We CR vA Uy ZY))
 go_region_with (go_at_call 223;refine(gx _ pb tv aa j2 (by exact vj) _ tY _ h7).mono ?_;rintro e w4 ⟨rfl,lZ⟩;have DQ:=dg.below (by exact vj) lZ;have yX:=al (fP nB) (aT lZ (some pb));obtain⟨t4,r4,O9,Jt,LG⟩:=eN h fA yX;have PO:=ae r4 0;have f14:=ae r4 1;have f24:=ae r4 2;have f34:=ae r4 3;have zA:=ab r4 0;have tH:=ab r4 1;have KJ:=ab r4 2;have Ub:=ab r4 3;have Vl:=ab t4 0;have I6:=ab t4 1;have K5:=ab t4 2;simp only[List.getElem?_toArray,List.getElem?_cons_zero,List.getElem?_cons_succ]at Vl I6 K5 zA tH KJ Ub)
 all_goals (go_wp2_with fail)
 all_goals (obtain⟨hu,gu,pu⟩:=gT r4 (.int .i64 a.at_) (.string a.pred) (.slice ad a.ag.length c) (.slice bd l.length d) O9 DQ (Nat.le_refl _))
 all_goals (exact bodyPost_ret (v:=.tuple #[.agg #[.int .i64 a.at_,.string a.pred,.slice ad a.ag.length c,.slice bd l.length d],.bool false]) (by simp[results,Tryz.results179,go_sem,ab hu]) rfl ⟨_,_,_,_,_,_,_,_,rfl,pu,gu⟩)
theorem V5(w:World)(pb:Nat)(tv:Value)(aa:List Ax.Tok)(nx:Nat)(h:dg w pb tv aa nx)(j:Nat)(a:Ax.Atom)(hA:Hid (Ax.bQ aa nx=(some a,j)))(t1:Ax.Tok)(yT:Hid (aa[j]?=some t1))(h8:(t1.kind==8)=true)(j2:Nat)(b:List Ax.Atom)(hB:Hid (Ax.bL aa aa.length (j+1) []=(some b,j2)))(t2:Ax.Tok)(tY:Hid (aa[j2]?=some t2))(h7:(t2.kind==7)=true):
 Calls Tryz.prog 179 #[.pointer (some ⟨pb,0,none⟩)] w fun e w'=>∃ad c bd d l,e=.returned (.tuple #[.agg #[.int .i64 a.at_,.string a.pred,.slice ad a.ag.length c,.slice bd (List.length l) d],.bool true])∧dg w' pb tv aa (j2+1)∧w.grownBy w' (some pb)∧MR.ok w' ⟨(a,.slice ad a.ag.length c),.slice bd (List.length l) d,l⟩∧l.map Prod.fst=b:=by
 have yB:=lt_of_heap h.1
 go_enter Tryz.func179,Tryz.ntmps179
 go_wp2_with (first | (go_at_call 222;refine(ji _ _ _ _ _ _ _ (h.alloc _) hA).mono ?_;rintro e w1 ⟨ad,c,rfl,CQ,fA,qG⟩;have fZ:=CQ.alloc (.cells #[.int .i64 a.at_,.string a.pred,.slice ad a.ag.length c] 219);have oa:=MA.alloc qG (.cells #[.int .i64 a.at_,.string a.pred,.slice ad a.ag.length c] 219)) | (go_at_call_of 223 (Value.int IntKind.i64 8);refine(dm _ _ _ _ _ fZ _ yT _ (by decide) h8).mono ?_;rintro e w2 ⟨rfl,iI,dL⟩;have th:=MA.step oa fZ dL) | (go_at_call 224;refine(yb _ _ _ _ _ _ _ iI hB).mono ?_;rintro e w3 ⟨bd,d,l,rfl,hl,vj,tM,ss,jt⟩;have nB:=al dL tM;have KP:=MA.step th iI tM;obtain⟨t3,r3,YA,U8,Uc⟩:=eN h fA nB;have Q2:=ae r3 0;have f13:=ae r3 1;have f23:=ae r3 2;have f33:=ae r3 3;have CR:=ab r3 0;have vA:=ab r3 1;have Uy:=ab r3 2;have ZY:=ab r3 3;have YG:=ab t3 0;have V6:=ab t3 1;have We:=ab t3 2;simp only[List.getElem?_toArray,List.getElem?_cons_zero,List.getElem?_cons_succ]at YG V6 We CR vA Uy ZY))
 go_region_with (go_at_call 223;refine(dm _ pb tv aa j2 (by exact vj) _ tY _ (by decide) h7).mono ?_;rintro e w4 ⟨rfl,DQ,wD⟩;have yX:=al (fP nB) wD;have x7:=MR.step (w:=w3.drew) (r:=⟨(a,.slice ad a.ag.length c),.slice bd l.length d,l⟩) ⟨KP,ss,jt⟩ (by exact vj) wD;obtain⟨t4,r4,O9,Jt,LG⟩:=eN h fA yX;have PO:=ae r4 0;have f14:=ae r4 1;have f24:=ae r4 2;have f34:=ae r4 3;have zA:=ab r4 0;have tH:=ab r4 1;have KJ:=ab r4 2;have Ub:=ab r4 3;have Vl:=ab t4 0;have I6:=ab t4 1;have K5:=ab t4 2;simp only[List.getElem?_toArray,List.getElem?_cons_zero,List.getElem?_cons_succ]at Vl I6 K5 zA tH KJ Ub)
 all_goals (go_wp2_with fail)
 all_goals (obtain⟨hu,gu,pu⟩:=gT r4 (.int .i64 a.at_) (.string a.pred) (.slice ad a.ag.length c) (.slice bd l.length d) O9 DQ (Nat.le_refl _))
 all_goals (exact bodyPost_ret (v:=.tuple #[.agg #[.int .i64 a.at_,.string a.pred,.slice ad a.ag.length c,.slice bd l.length d],.bool true]) (by simp[results,Tryz.results179,go_sem,ab hu]) rfl ⟨_,_,_,_,l,rfl,pu,gu,MR.sy r4 _ _ _ _ x7,hl.out⟩)
theorem UU(w:World)(pb:Nat)(tv:Value)(aa:List Ax.Tok)(nx:Nat)(h:dg w pb tv aa nx)(j:Nat)(a:Ax.Atom)(hA:Hid (Ax.bQ aa nx=(some a,j)))(t1:Ax.Tok)(yT:Hid (aa[j]?=some t1))(h8:(t1.kind==8)=false)(h7:(t1.kind==7)=false):
 Calls Tryz.prog 179 #[.pointer (some ⟨pb,0,none⟩)] w fun e w'=>∃x y ad n c bd m d,e=.returned (.tuple #[.agg #[.int .i64 x,.string y,.slice ad n c,.slice bd m d],.bool false])∧dg w' pb tv aa j∧w.grownBy w' (some pb):=by
 have yB:=lt_of_heap h.1
 go_enter Tryz.func179,Tryz.ntmps179
 go_wp2_with (first | (go_at_call 222;refine(ji _ _ _ _ _ _ _ (h.alloc _) hA).mono ?_;rintro e w1 ⟨ad,c,rfl,CQ,fA,qG⟩;have fZ:=CQ.alloc (.cells #[.int .i64 a.at_,.string a.pred,.slice ad a.ag.length c] 219);have oa:=MA.alloc qG (.cells #[.int .i64 a.at_,.string a.pred,.slice ad a.ag.length c] 219)) | (go_at_call_of 223 (Value.int IntKind.i64 8);refine(gx _ _ _ _ _ fZ _ yT _ h8).mono ?_;rintro e w2 ⟨rfl,cM⟩;have iI:=fZ.below cM;have dL:=aT cM (some pb);have th:=MA.step oa fZ dL;obtain⟨t2,r2,GM,ZZ,ZO⟩:=eN h fA dL;have Tz:=ae r2 0;have f12:=ae r2 1;have f22:=ae r2 2;have f32:=ae r2 3;have EV:=ab r2 0;have yl:=ab r2 1;have YF:=ab r2 2;have k32:=ab r2 3;have c02:=ab t2 0;have Zm:=ab t2 1;have Yw:=ab t2 2;simp only[List.getElem?_toArray,List.getElem?_cons_zero,List.getElem?_cons_succ]at c02 Zm Yw EV yl YF k32))
 go_region_with (go_at_call 223;refine(gx _ pb tv aa j (by exact iI) _ yT _ h7).mono ?_;rintro e w4 ⟨rfl,lZ⟩;have DQ:=dg.below (by exact iI) lZ;have yX:=al (fP dL) (aT lZ (some pb));obtain⟨t4,r4,O9,Jt,LG⟩:=eN h fA yX;have PO:=ae r4 0;have f14:=ae r4 1;have f24:=ae r4 2;have f34:=ae r4 3;have zA:=ab r4 0;have tH:=ab r4 1;have KJ:=ab r4 2;have Ub:=ab r4 3;have Vl:=ab t4 0;have I6:=ab t4 1;have K5:=ab t4 2;simp only[List.getElem?_toArray,List.getElem?_cons_zero,List.getElem?_cons_succ]at Vl I6 K5 zA tH KJ Ub)
 all_goals (go_wp2_with fail)
 all_goals (obtain⟨hu,gu,pu⟩:=gT r4 (.int .i64 a.at_) (.string a.pred) (.slice ad a.ag.length c) (.slice none 0 0) O9 DQ (Nat.le_refl _))
 all_goals (exact bodyPost_ret (v:=.tuple #[.agg #[.int .i64 a.at_,.string a.pred,.slice ad a.ag.length c,.slice none 0 0],.bool false]) (by simp[results,Tryz.results179,go_sem,ab hu]) rfl ⟨_,_,_,_,_,_,_,_,rfl,pu,gu⟩)
theorem V8(w:World)(pb:Nat)(tv:Value)(aa:List Ax.Tok)(nx:Nat)(h:dg w pb tv aa nx)(j:Nat)(a:Ax.Atom)(hA:Hid (Ax.bQ aa nx=(some a,j)))(t1:Ax.Tok)(yT:Hid (aa[j]?=some t1))(h8:(t1.kind==8)=false)(h7:(t1.kind==7)=true):
 Calls Tryz.prog 179 #[.pointer (some ⟨pb,0,none⟩)] w fun e w'=>∃ad c bd d l,e=.returned (.tuple #[.agg #[.int .i64 a.at_,.string a.pred,.slice ad a.ag.length c,.slice bd (List.length l) d],.bool true])∧dg w' pb tv aa (j+1)∧w.grownBy w' (some pb)∧MR.ok w' ⟨(a,.slice ad a.ag.length c),.slice bd (List.length l) d,l⟩∧l.map Prod.fst=[]:=by
 have yB:=lt_of_heap h.1
 go_enter Tryz.func179,Tryz.ntmps179
 go_wp2_with (first | (go_at_call 222;refine(ji _ _ _ _ _ _ _ (h.alloc _) hA).mono ?_;rintro e w1 ⟨ad,c,rfl,CQ,fA,qG⟩;have fZ:=CQ.alloc (.cells #[.int .i64 a.at_,.string a.pred,.slice ad a.ag.length c] 219);have oa:=MA.alloc qG (.cells #[.int .i64 a.at_,.string a.pred,.slice ad a.ag.length c] 219)) | (go_at_call_of 223 (Value.int IntKind.i64 8);refine(gx _ _ _ _ _ fZ _ yT _ h8).mono ?_;rintro e w2 ⟨rfl,cM⟩;have iI:=fZ.below cM;have dL:=aT cM (some pb);have th:=MA.step oa fZ dL;obtain⟨t2,r2,GM,ZZ,ZO⟩:=eN h fA dL;have Tz:=ae r2 0;have f12:=ae r2 1;have f22:=ae r2 2;have f32:=ae r2 3;have EV:=ab r2 0;have yl:=ab r2 1;have YF:=ab r2 2;have k32:=ab r2 3;have c02:=ab t2 0;have Zm:=ab t2 1;have Yw:=ab t2 2;simp only[List.getElem?_toArray,List.getElem?_cons_zero,List.getElem?_cons_succ]at c02 Zm Yw EV yl YF k32))
 go_region_with (go_at_call 223;refine(dm _ pb tv aa j (by exact iI) _ yT _ (by decide) h7).mono ?_;rintro e w4 ⟨rfl,DQ,wD⟩;have yX:=al (fP dL) wD;have x7:=MR.step (w:=w2.drew) (r:=⟨(a,.slice ad a.ag.length c),.slice none 0 0,[]⟩) ⟨th,World.ownsRow_nil _ _ _ _,Iu _⟩ (by exact iI) wD;obtain⟨t4,r4,O9,Jt,LG⟩:=eN h fA yX;have PO:=ae r4 0;have f14:=ae r4 1;have f24:=ae r4 2;have f34:=ae r4 3;have zA:=ab r4 0;have tH:=ab r4 1;have KJ:=ab r4 2;have Ub:=ab r4 3;have Vl:=ab t4 0;have I6:=ab t4 1;have K5:=ab t4 2;simp only[List.getElem?_toArray,List.getElem?_cons_zero,List.getElem?_cons_succ]at Vl I6 K5 zA tH KJ Ub)
 all_goals (go_wp2_with fail)
 all_goals (obtain⟨hu,gu,pu⟩:=gT r4 (.int .i64 a.at_) (.string a.pred) (.slice ad a.ag.length c) (.slice none 0 0) O9 DQ (Nat.le_refl _))
 all_goals (exact bodyPost_ret (v:=.tuple #[.agg #[.int .i64 a.at_,.string a.pred,.slice ad a.ag.length c,.slice none 0 0],.bool true]) (by simp[results,Tryz.results179,go_sem,ab hu]) rfl ⟨_,_,none,0,[],rfl,pu,gu,MR.sy r4 _ _ _ _ x7,rfl⟩)
end
end Go.Proofs.YtdmicblafmhflaaGreatDoor

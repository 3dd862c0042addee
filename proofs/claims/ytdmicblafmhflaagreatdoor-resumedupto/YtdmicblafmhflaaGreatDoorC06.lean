/- The parser: atoms. -/
import Derived.Test.YtdmicblafmhflaaGreatDoorC05
import Derived.Test.YtdmicblafmhflaaGreatDoorC00
set_option linter.unusedSimpArgs false
set_option linter.unusedVariables false
set_option maxHeartbeats 2000000
namespace Go.Proofs.YtdmicblafmhflaaGreatDoor
section
open Go.RowKit
abbrev MA:=Ax.Atom×Value
def MA.ok(w:World)(x:MA):Prop:=w.ownsRow 0 310 2 x.2 x.1.ak.length (cf x.1.ak)
def bt(l:List MA):List Value:=l.flatMap fun x=>[.int .i64 x.1.at_,.string x.1.pred,x.2]
theorem oJ(l:List MA)(x:MA):bt (l++[x])=bt l++[.int .i64 x.1.at_,.string x.1.pred,x.2]:=by simp[bt]
def te(w:World)(l:List MA):Prop:=∀x,x∈l→x.ok w
theorem Tryz.C1:(Tryz.prog.info? 219).map (fun i=>(i.zero,i.size,i.bytes))=some (some (.agg #[.int .i64 0,.string ByteArray.empty,.slice none 0 0]),3,48):=by kernel_rfl
theorem Io(w:World):te w []:=fun _ h=>by cases h
theorem mo{w w':World}{l:List MA}(h:te w l)(hb:Below w.heap.size w w'):te w' l:=fun x hx=>ah (h x hx) hb
theorem Cz{w w':World}{l:List MA}{row:Option Nat}{e':TypeId}(h:te w l)(hg:w.grownBy w' row)(hr:∀k,row=some k→∃cur fz,w.heap[k]?=some (.cells cur e' fz))(cE:310≠e'):te w' l:=
 fun x hx=>cX (h x hx) hg hr cE
theorem rH{w w':World}{l:List MA}{pb:Nat}{tv:Value}{ae:List Ax.Tok}{nx:Nat}(h:te w l)(hp:dF w pb tv ae nx)(hg:w.grownBy w' (some pb)):te w' l:=
 fun x hx=>cY (h x hx) hp hg (by decide)
theorem O3{w:World}{l:List MA}{x:MA}(h:te w l)(hx:x.ok w):te w (l++[x]):=by
 intro y hy
 rcases List.mem_append.1 hy with hy | hy
 · exact h y hy
 · simp at hy;subst hy;exact hx
theorem jd(w:World)(pb:Nat)(tv:Value)(ae:List Ax.Tok)(nx j:Nat)(a:Ax.Atom)(h:dF w pb tv ae nx)(hR:Hid (Ax.b8 ae nx=(some a,j))):
 Calls Tryz.prog 222 #[.pointer (some ⟨pb,0,none⟩)] w fun e w'=>∃ad c,e=.returned (.tuple #[.agg #[.int .i64 a.at_,.string a.pred,.slice ad a.ak.length c],.bool true])∧dF w' pb tv ae j∧w.grownBy w' (some pb)∧MA.ok w' (a,.slice ad a.ak.length c):=by
 refine(Dp w pb tv ae nx h).mono ?_
 rintro e w' ⟨hp,hg,hc⟩
 rw[hR.out]at hp hc
 rcases hc with⟨ad,c,a',rfl,hn,au⟩ | ⟨_,_,_,_,_,_,hn⟩
 · simp at hn;subst hn
   exact⟨ad,c,rfl,hp,hg,aE au (Nat.zero_le _)⟩
 · simp at hn
theorem Ap(w:World)(pb:Nat)(tv:Value)(ae:List Ax.Tok)(nx j:Nat)(h:dF w pb tv ae nx)(hR:Hid (Ax.b8 ae nx=(none,j))):
 Calls Tryz.prog 222 #[.pointer (some ⟨pb,0,none⟩)] w fun e w'=>∃x y ad n c,e=.returned (.tuple #[.agg #[.int .i64 x,.string y,.slice ad n c],.bool false])∧dF w' pb tv ae j∧w.grownBy w' (some pb):=by
 refine(Dp w pb tv ae nx h).mono ?_
 rintro e w' ⟨hp,hg,hc⟩
 rw[hR.out]at hp hc
 rcases hc with⟨ad,c,a',_,hn,_⟩ | ⟨x,y,ad,n,c,rfl,hn⟩
 · simp at hn
 · exact⟨x,y,ad,n,c,rfl,hp,hg⟩
theorem ua{w w1 w2:World}{pb:Nat}{tv v:Value}{ae:List Ax.Tok}{nx n:Nat}{xs:List Value}{o1 o2:Obj}{l:List MA}{x:MA}(bH:w1.ownsRow w.heap.size 219 3 v n xs)(fW:dF w1 pb tv ae nx)(hg:w.grownBy w1 (some pb))(dj:te w1 l)(hx:x.ok w1)
 (bx:((w1.alloc o1).alloc o2).grownBy w2 v.ownBlock):dF w2 pb tv ae nx∧w.grownBy w2 (some pb)∧te w2 (l++[x]):=
 ⟨((fW.alloc o1).alloc o2).row bx (bK ((bH.alloc o1).alloc o2)) (by decide) (by decide),
  oz (grownBy_alloc (grownBy_alloc hg _) _) bx (fun k hk=>(bH.lt k hk).1),
  Cz (w:=(w1.alloc o1).alloc o2) (fun y hy=>World.ownsRow.alloc (World.ownsRow.alloc (O3 dj hx y hy) _) _) bx (bK ((bH.alloc o1).alloc o2)) (by decide)⟩
def M8(w wr:World)(pb:Nat)(tv:Value)(ae:List Ax.Tok)(v:Value)(nx k:Nat)(acc:List MA)(R:Option (List Ax.Atom)×Nat):Prop:=
 dF wr pb tv ae nx∧wr.ownsRow w.heap.size 219 3 v acc.length (bt acc)∧te wr acc∧w.grownBy wr (some pb)∧acc.length≤nx∧ae.length≤nx+k∧Ax.bV ae k nx (acc.map Prod.fst)=R
theorem zM(w:World)(pb:Nat)(tv:Value)(ae:List Ax.Tok)(nx:Nat)(h:dF w pb tv ae nx):
 Calls Tryz.prog 224 #[.pointer (some ⟨pb,0,none⟩)] w fun e w'=>dF w' pb tv ae (Ax.bV ae ae.length nx []).2∧w.grownBy w' (some pb)∧
  ((∃v l,e=.returned (.tuple #[v,.bool true])∧(Ax.bV ae ae.length nx []).1=some (l.map Prod.fst)∧w'.ownsRow w.heap.size 219 3 v l.length (bt l)∧te w' l)∨
   (e=.returned (.tuple #[.slice none 0 0,.bool false])∧(Ax.bV ae ae.length nx []).1=none)):=by
 obtain⟨i0,hi,ew,ev,dY⟩:=info_parts Tryz.C1
 generalize hR:Ax.bV ae ae.length nx []=R
 have vO:=lt_of_heap h.1
 go_enter Tryz.func224,Tryz.ntmps224
 go_wp2_with fail
 go_loopg [4] ae.length (fun k v wr=>∃(i:Nat) (acc:List MA),M8 w wr pb tv ae v i k acc R)
 case atStart=>exact⟨nx,[],h,World.ownsRow_nil _ _ _ _,Io _,il _ _,Nat.zero_le _,by omega,hR⟩
 case round=>
  obtain⟨i,acc,hp,au,dj,hg,Ps,hlen,hr⟩:=hrel
  have aG:=hp.2.2.1
  have hle:=hp.2.2.2.1
  have mm:=hp.2.2.2.2
  have cR:=hg.size
  cases gk with
  | zero=>omega
  | succ k=>
  have zm:Hid (Ax.bV ae (k+1) i (acc.map Prod.fst)=R):=hr
  clear hr hR
  rcases EC:Ax.b8 ae i with⟨_ | a,j⟩
  · have hA:Hid (Ax.b8 ae i=(none,j)):=EC
    clear EC
    go_wp2_with (go_at_call 222;refine(Ap _ _ _ _ _ _ hp hA).mono ?_;rintro e w1 ⟨x,y,ad,n,c,rfl,fW,ft⟩)
    go_ret2
    have e:=zm.out.symm.trans (Ax.jz hA.out)
    exact⟨by rw[e];exact fW.alloc _,grownBy_alloc (ax hg ft) _,.inr ⟨rfl,by rw[e]⟩⟩
  · have hA:Hid (Ax.b8 ae i=(some a,j)):=EC
    have Yp:=Ax.rD EC
    have hj:=Ax.kN mm aG EC
    clear EC
    obtain⟨t',LD⟩:∃t,ae[j]?=some t:=⟨_,List.getElem?_eq_getElem hj⟩
    have nT:Hid (ae[j]?=some t'):=LD
    clear LD
    cases h6:(t'.kind==6)
    case true=>
     have kI:Hid (Ax.bV ae (k+1) i (acc.map Prod.fst)=Ax.bV ae k (j+1) (acc.map Prod.fst++[a])):=Ax.kj hA.out (by rw[Ax.cZ nT.out];simpa using h6)
     go_wp2_with (first | (go_at_call 222;refine(jd _ _ _ _ _ _ _ hp hA).mono ?_;rintro e w1 ⟨ad,c,rfl,fW,ft,qC⟩;have bH:=cY au hp ft (by decide);have kV:=ft.size;have nU:=rH dj hp ft) | (at_builtin;refine wpList_append_own _ rfl (.tmp 14) (.tmp 16) 220 rfl w.heap.size 219 i0 _ 3 48 Tryz.underlying220 hi ew ev dY rfl (by decide) _ _ _ rfl ((bH.alloc _).alloc _) ⟨w1.heap.size+1,0,none⟩ 1 1 [.int .i64 a.at_,.string a.pred,.slice ad a.ak.length c] rfl rfl (eY _ _ _ _) (by simp[Value.oneCell']) (by unfold maxLen;omega) (by omega) (by simp;omega) ?_;intro v2 w2 aP bx _;obtain⟨jZ,eE,tA⟩:=ua bH fW (ax hg ft) nU qC bx;clear bx bH fW nU qC) | (go_at_call 223;refine(du _ _ _ _ _ jZ _ nT _ (by decide) h6).mono ?_;rintro e w3 ⟨rfl,vh,nN⟩;have fF:=cY aP jZ nN (by decide);have Lg:=rH tA jZ nN))
     go_roundg k
     case measure=>omega
     case rel=>
      refine⟨j+1,acc++[(a,.slice ad a.ak.length c)],vh, ?_,Lg,ax eE nN,by simp;omega,by omega, ?_⟩
      · rw[oJ];simpa using fF
      · rw[List.map_append];exact kI.out.symm.trans zm.out
    case false=>
     have kI:Hid (Ax.bV ae (k+1) i (acc.map Prod.fst)=(some (acc.map Prod.fst++[a]),j)):=Ax.gL hA.out (by rw[Ax.cZ nT.out];simpa using h6)
     go_wp2_with (first | (go_at_call 222;refine(jd _ _ _ _ _ _ _ hp hA).mono ?_;rintro e w1 ⟨ad,c,rfl,fW,ft,qC⟩;have bH:=cY au hp ft (by decide);have kV:=ft.size;have nU:=rH dj hp ft) | (at_builtin;refine wpList_append_own _ rfl (.tmp 14) (.tmp 16) 220 rfl w.heap.size 219 i0 _ 3 48 Tryz.underlying220 hi ew ev dY rfl (by decide) _ _ _ rfl ((bH.alloc _).alloc _) ⟨w1.heap.size+1,0,none⟩ 1 1 [.int .i64 a.at_,.string a.pred,.slice ad a.ak.length c] rfl rfl (eY _ _ _ _) (by simp[Value.oneCell']) (by unfold maxLen;omega) (by omega) (by simp;omega) ?_;intro v2 w2 aP bx _;obtain⟨jZ,eE,tA⟩:=ua bH fW (ax hg ft) nU qC bx;clear bx bH fW nU qC) | (go_at_call 223;refine(gq _ _ _ _ _ jZ _ nT _ h6).mono ?_;rintro e w3 ⟨rfl,fH⟩;have fF:=ah aP fH;have Lg:=mo tA fH))
     go_ret2
     have e:=zm.out.symm.trans kI.out
     refine⟨by rw[e];exact jZ.below fH,ax eE (aW fH _),.inl ⟨_,acc++[(a,.slice ad a.ak.length c)],rfl,by rw[e];simp, ?_,Lg⟩⟩
     rw[oJ];simpa using fF
end
/- The parser: rule. -/
section
open Go.RowKit
structure MR where
 head:MA
 bv:Value
 body:List MA
def MR.ok(w:World)(r:MR):Prop:=r.head.ok w∧w.ownsRow 0 219 3 r.bv r.body.length (bt r.body)∧te w r.body
def MR.ay(r:MR):Ax.bD:=⟨r.head.1,r.body.map Prod.fst⟩
theorem MA.alloc{w:World}{x:MA}(h:MA.ok w x)(o:Obj):MA.ok (w.alloc o) x:=World.ownsRow.alloc h o
theorem MA.step{w w':World}{x:MA}{pb:Nat}{tv:Value}{ae:List Ax.Tok}{nx:Nat}(h:MA.ok w x)(hp:dF w pb tv ae nx)(hg:w.grownBy w' (some pb)):MA.ok w' x:=cY h hp hg (by decide)
theorem MR.type{w w':World}{r:MR}{row:Option Nat}{e':TypeId}(h:MR.ok w r)(hg:w.grownBy w' row)(hr:∀k,row=some k→∃cur fz,w.heap[k]?=some (.cells cur e' fz))(h1:310≠e')(h2:219≠e'):MR.ok w' r:=
 ⟨cX h.1 hg hr h1,cX h.2.1 hg hr h2,Cz h.2.2 hg hr h1⟩
theorem MR.step{w w':World}{r:MR}{pb:Nat}{tv:Value}{ae:List Ax.Tok}{nx:Nat}(h:MR.ok w r)(hp:dF w pb tv ae nx)(hg:w.grownBy w' (some pb)):MR.ok w' r:=
 ⟨MA.step h.1 hp hg,cY h.2.1 hp hg (by decide),rH h.2.2 hp hg⟩
theorem MR.below{w w':World}{r:MR}(h:MR.ok w r)(hb:Below w.heap.size w w'):MR.ok w' r:=⟨ah h.1 hb,ah h.2.1 hb,mo h.2.2 hb⟩
theorem FQ(w:World)(pb:Nat)(tv:Value)(ae:List Ax.Tok)(nx j:Nat)(h:dF w pb tv ae nx)(hR:Hid (Ax.bV ae ae.length nx []=(none,j))):
 Calls Tryz.prog 224 #[.pointer (some ⟨pb,0,none⟩)] w fun e w'=>e=.returned (.tuple #[.slice none 0 0,.bool false])∧dF w' pb tv ae j∧w.grownBy w' (some pb):=by
 refine(zM w pb tv ae nx h).mono ?_
 rintro e w' ⟨hp,hg,hc⟩
 rw[hR.out]at hp hc
 rcases hc with⟨v,ts,_,hn,_⟩ | ⟨rfl,_⟩
 · simp at hn
 · exact⟨rfl,hp,hg⟩
theorem vE(w:World)(pb:Nat)(tv:Value)(ae:List Ax.Tok)(nx j:Nat)(b:List Ax.Atom)(h:dF w pb tv ae nx)(hR:Hid (Ax.bV ae ae.length nx []=(some b,j))):
 Calls Tryz.prog 224 #[.pointer (some ⟨pb,0,none⟩)] w fun e w'=>∃bd d l,e=.returned (.tuple #[.slice bd (List.length l) d,.bool true])∧Hid (l.map Prod.fst=b)∧dF w' pb tv ae j∧w.grownBy w' (some pb)∧w'.ownsRow 0 219 3 (.slice bd l.length d) l.length (bt l)∧te w' l:=by
 refine(zM w pb tv ae nx h).mono ?_
 rintro e w' ⟨hp,hg,hc⟩
 rw[hR.out]at hp hc
 rcases hc with⟨v,l,rfl,hn,au,dj⟩ | ⟨_,hn⟩
 · obtain⟨a,c,rfl⟩:=aj au
   simp only[Option.some.injEq]at hn
   exact⟨a,c,l,rfl,hn.symm,hp,hg,aE au (Nat.zero_le _),dj⟩
 · simp at hn
theorem eU{w w1 w2:World}{pb:Nat}{tv:Value}{ae:List Ax.Tok}{nx:Nat}{o1 o2:Obj}(h:dF w pb tv ae nx)(ft:(w.alloc o1).grownBy w1 (some pb))(eE:(w1.alloc o2).grownBy w2 (some pb)):
 w2.heap[w1.heap.size]?=some o2∧w2.heap[w.heap.size]?=some o1∧w.grownBy w2 (some pb)∧w.heap.size<w1.heap.size∧w1.heap.size<w2.heap.size:=by
 have hp:=lt_of_heap h.1
 have kV:=ft.size
 have yH:=eE.size
 simp only[World.size_alloc]at kV yH
 refine⟨?_, ?_, ?_,by omega,by omega⟩
 · rw[eE.block _ (by simp) (by simp;omega)]
   exact heap_alloc_new _ _
 · rw[eE.block _ (by simp;omega) (by simp;omega),Below.heap_alloc _ _ _ (by omega),ft.block _ (by simp) (by simp;omega)]
   exact heap_alloc_new _ _
 · exact ax (ax (ax (World.grownBy_alloc w o1 _) ft) (World.grownBy_alloc _ _ _)) eE
theorem rl{w2:World}{k:Nat}{a b c d:Value}{T:TypeId}(r2:w2.heap[k]?=some (.cells #[a,b,c,d] T (0,0)))(x y z u:Value):
 ∃w3 w4 w5,w3=w2.setCell ⟨k,0,none⟩ x∧w4=w3.setCell ⟨k,1,none⟩ y∧w5=w4.setCell ⟨k,2,none⟩ z∧
  (∀w' row,(w'=w3∨w'=w4∨w'=w5∨w'=w2)→row=some k→∃cur fz,w'.heap[k]?=some (.cells cur T fz))∧
  ((((w2.setCell ⟨k,0,none⟩ x).setCell ⟨k,1,none⟩ y).setCell ⟨k,2,none⟩ z).setCell ⟨k,3,none⟩ u).heap[k]?=some (.cells #[x,y,z,u] T (0,0)):=by
 have h0:=heap_setCell_same (off:=0) r2 x
 have h1:=heap_setCell_same (off:=1) h0 y
 have h2:=heap_setCell_same (off:=2) h1 z
 have h3:=heap_setCell_same (off:=3) h2 u
 refine⟨_,_,_,rfl,rfl,rfl, ?_,by rw[h3];rfl⟩
 rintro w' row (rfl | rfl | rfl | rfl) _
 · exact⟨_,_,h0⟩
 · exact⟨_,_,h1⟩
 · exact⟨_,_,h2⟩
 · exact⟨_,_,r2⟩
theorem gU{w w2:World}{pb:Nat}{tv:Value}{ae:List Ax.Tok}{nx k:Nat}{a b c d:Value}(r2:w2.heap[k]?=some (.cells #[a,b,c,d] 222 (0,0)))(x y z u:Value)(gw:w.grownBy w2 (some pb))(hp:dF w2 pb tv ae nx)(hk:w.heap.size≤k):
 ((((w2.setCell ⟨k,0,none⟩ x).setCell ⟨k,1,none⟩ y).setCell ⟨k,2,none⟩ z).setCell ⟨k,3,none⟩ u).heap[k]?=some (.cells #[x,y,z,u] 222 (0,0))∧w.grownBy ((((w2.setCell ⟨k,0,none⟩ x).setCell ⟨k,1,none⟩ y).setCell ⟨k,2,none⟩ z).setCell ⟨k,3,none⟩ u) (some pb)∧dF ((((w2.setCell ⟨k,0,none⟩ x).setCell ⟨k,1,none⟩ y).setCell ⟨k,2,none⟩ z).setCell ⟨k,3,none⟩ u) pb tv ae nx:=by
 obtain⟨_,_,_,rfl,rfl,rfl,mA,eh⟩:=rl r2 x y z u
 refine⟨eh,cV (cV (cV (cV gw hk x) hk y) hk z) hk u, ?_⟩
 refine(((hp.row (grownBy_setCell _ _) (e':=222) (fun j hj=> ?_) (by decide) (by decide)).row (grownBy_setCell _ _) (e':=222) (fun j hj=> ?_) (by decide) (by decide)).row (grownBy_setCell _ _) (e':=222) (fun j hj=> ?_) (by decide) (by decide)).row (grownBy_setCell _ _) (e':=222) (fun j hj=> ?_) (by decide) (by decide)
 all_goals (cases hj)
 · exact mA _ _ (.inr (.inr (.inr rfl))) rfl
 · exact mA _ _ (.inl rfl) rfl
 · exact mA _ _ (.inr (.inl rfl)) rfl
 · exact mA _ _ (.inr (.inr (.inl rfl))) rfl
theorem MR.rl{w2:World}{k:Nat}{a b c d:Value}(r2:w2.heap[k]?=some (.cells #[a,b,c,d] 222 (0,0)))(x y z u:Value){r:MR}(h:MR.ok w2 r):
 MR.ok ((((w2.setCell ⟨k,0,none⟩ x).setCell ⟨k,1,none⟩ y).setCell ⟨k,2,none⟩ z).setCell ⟨k,3,none⟩ u) r:=by
 obtain⟨_,_,_,rfl,rfl,rfl,mA,eh⟩:=Go.Proofs.YtdmicblafmhflaaGreatDoor.rl r2 x y z u
 refine MR.type (MR.type (MR.type (MR.type h (grownBy_setCell _ _) (e':=222) (fun j hj=> ?_) (by decide) (by decide)) (grownBy_setCell _ _) (e':=222) (fun j hj=> ?_) (by decide) (by decide)) (grownBy_setCell _ _) (e':=222) (fun j hj=> ?_) (by decide) (by decide)) (grownBy_setCell _ _) (e':=222) (fun j hj=> ?_) (by decide) (by decide)
 all_goals (cases hj)
 · exact mA _ _ (.inr (.inr (.inr rfl))) rfl
 · exact mA _ _ (.inl rfl) rfl
 · exact mA _ _ (.inr (.inl rfl)) rfl
 · exact mA _ _ (.inr (.inr (.inl rfl))) rfl
theorem Cv{w w1:World}{pb:Nat}{tv:Value}{ae:List Ax.Tok}{nx:Nat}{o1:Obj}(h:dF w pb tv ae nx)(ft:(w.alloc o1).grownBy w1 (some pb)):
 w1.heap[w.heap.size]?=some o1∧w.grownBy w1 (some pb)∧w.heap.size<w1.heap.size:=by
 have hp:=lt_of_heap h.1
 have kV:=ft.size
 simp only[World.size_alloc]at kV
 refine⟨?_,ax (World.grownBy_alloc w o1 _) ft,by omega⟩
 rw[ft.block _ (by simp) (by simp;omega)]
 exact heap_alloc_new _ _
theorem UR(w:World)(pb:Nat)(tv:Value)(ae:List Ax.Tok)(nx:Nat)(h:dF w pb tv ae nx)(j:Nat)(hA:Hid (Ax.b8 ae nx=(none,j))):
 Calls Tryz.prog 179 #[.pointer (some ⟨pb,0,none⟩)] w fun e w'=>∃x y ad n c bd m d,e=.returned (.tuple #[.agg #[.int .i64 x,.string y,.slice ad n c,.slice bd m d],.bool false])∧dF w' pb tv ae j∧w.grownBy w' (some pb):=by
 have vO:=lt_of_heap h.1
 go_enter Tryz.func179,Tryz.ntmps179
 go_wp2_with (go_at_call 222;refine(Ap _ _ _ _ _ _ (h.alloc _) hA).mono ?_;rintro e w1 ⟨x,y,ad,n,c,rfl,fW,ft⟩;obtain⟨r1,gw1,Zy⟩:=Cv h ft;have f0:=aq r1 0;have f1:=aq r1 1;have f2:=aq r1 2;have f3:=aq r1 3;have k0:=ag r1 0;have k1:=ag r1 1;have k2:=ag r1 2;have k3:=ag r1 3;simp only[List.getElem?_toArray,List.getElem?_cons_zero,List.getElem?_cons_succ]at k0 k1 k2 k3)
 obtain⟨hu,gu,pu⟩:=gU r1 (.int .i64 0) (.string ⟨#[]⟩) (.slice none 0 0) (.slice none 0 0) gw1 fW (Nat.le_refl _)
 have hu':=(Below.heap_alloc _ (.cells #[.int .i64 x,.string y,.slice ad n c] 219) _ (lt_of_heap hu)).trans hu
 exact bodyPost_ret (v:=.tuple #[.agg #[.int .i64 0,.string ⟨#[]⟩,.slice none 0 0,.slice none 0 0],.bool false]) (by simp[results,Tryz.results179,go_sem,ag hu']) rfl ⟨_,_,_,_,_,_,_,_,rfl,pu.alloc _,grownBy_alloc gu _⟩
theorem Uj(w:World)(pb:Nat)(tv:Value)(ae:List Ax.Tok)(nx:Nat)(h:dF w pb tv ae nx)(j:Nat)(a:Ax.Atom)(hA:Hid (Ax.b8 ae nx=(some a,j)))(t1:Ax.Tok)(ye:Hid (ae[j]?=some t1))(h8:(t1.kind==8)=true)(j2:Nat)(hB:Hid (Ax.bV ae ae.length (j+1) []=(none,j2))):
 Calls Tryz.prog 179 #[.pointer (some ⟨pb,0,none⟩)] w fun e w'=>∃x y ad n c bd m d,e=.returned (.tuple #[.agg #[.int .i64 x,.string y,.slice ad n c,.slice bd m d],.bool false])∧dF w' pb tv ae j2∧w.grownBy w' (some pb):=by
 have vO:=lt_of_heap h.1
 go_enter Tryz.func179,Tryz.ntmps179
 go_wp2_with (first | (go_at_call 222;refine(jd _ _ _ _ _ _ _ (h.alloc _) hA).mono ?_;rintro e w1 ⟨ad,c,rfl,A3,ft,qC⟩;have fW:=A3.alloc (.cells #[.int .i64 a.at_,.string a.pred,.slice ad a.ak.length c] 219);have nU:=MA.alloc qC (.cells #[.int .i64 a.at_,.string a.pred,.slice ad a.ak.length c] 219)) | (go_at_call_of 223 (Value.int IntKind.i64 8);refine(du _ _ _ _ _ fW _ ye _ (by decide) h8).mono ?_;rintro e w2 ⟨rfl,jZ,eE⟩;have tA:=MA.step nU fW eE) | (go_at_call 224;refine(FQ _ _ _ _ _ _ jZ hB).mono ?_;rintro e w3 ⟨rfl,vh,tm⟩;have nN:=ax eE tm;obtain⟨t3,r3,WC,VB,UL⟩:=eU h ft nN;have ZK:=aq r3 0;have f13:=aq r3 1;have f23:=aq r3 2;have f33:=aq r3 3;have PJ:=ag r3 0;have Gk:=ag r3 1;have Vk:=ag r3 2;have XB:=ag r3 3;have Za:=ag t3 0;have UW:=ag t3 1;have Uh:=ag t3 2;simp only[List.getElem?_toArray,List.getElem?_cons_zero,List.getElem?_cons_succ]at Za UW Uh PJ Gk Vk XB))
 obtain⟨hu,gu,pu⟩:=gU r3 (.int .i64 0) (.string ⟨#[]⟩) (.slice none 0 0) (.slice none 0 0) WC vh (Nat.le_refl _)
 exact bodyPost_ret (v:=.tuple #[.agg #[.int .i64 0,.string ⟨#[]⟩,.slice none 0 0,.slice none 0 0],.bool false]) (by simp[results,Tryz.results179,go_sem,ag hu]) rfl ⟨_,_,_,_,_,_,_,_,rfl,pu,gu⟩
end
/- The parser: rule, its last region. -/
section
open Go.RowKit
theorem SQ(w:World)(pb:Nat)(tv:Value)(ae:List Ax.Tok)(nx:Nat)(h:dF w pb tv ae nx)(j:Nat)(a:Ax.Atom)(hA:Hid (Ax.b8 ae nx=(some a,j)))(t1:Ax.Tok)(ye:Hid (ae[j]?=some t1))(h8:(t1.kind==8)=true)(j2:Nat)(b:List Ax.Atom)(hB:Hid (Ax.bV ae ae.length (j+1) []=(some b,j2)))(t2:Ax.Tok)(s9:Hid (ae[j2]?=some t2))(h7:(t2.kind==7)=false):
 Calls Tryz.prog 179 #[.pointer (some ⟨pb,0,none⟩)] w fun e w'=>∃x y ad n c bd m d,e=.returned (.tuple #[.agg #[.int .i64 x,.string y,.slice ad n c,.slice bd m d],.bool false])∧dF w' pb tv ae j2∧w.grownBy w' (some pb):=by
 have vO:=lt_of_heap h.1
 go_enter Tryz.func179,Tryz.ntmps179
 go_wp2_with (first | (go_at_call 222;refine(jd _ _ _ _ _ _ _ (h.alloc _) hA).mono ?_;rintro e w1 ⟨ad,c,rfl,A3,ft,qC⟩;have fW:=A3.alloc (.cells #[.int .i64 a.at_,.string a.pred,.slice ad a.ak.length c] 219);have nU:=MA.alloc qC (.cells #[.int .i64 a.at_,.string a.pred,.slice ad a.ak.length c] 219)) | (go_at_call_of 223 (Value.int IntKind.i64 8);refine(du _ _ _ _ _ fW _ ye _ (by decide) h8).mono ?_;rintro e w2 ⟨rfl,jZ,eE⟩;have tA:=MA.step nU fW eE) | (go_at_call 224;refine(vE _ _ _ _ _ _ _ jZ hB).mono ?_;rintro e w3 ⟨bd,d,l,rfl,hl,vh,tm,pY,jC⟩;have nN:=ax eE tm;have Lg:=MA.step tA jZ tm;obtain⟨t3,r3,WC,VB,UL⟩:=eU h ft nN;have ZK:=aq r3 0;have f13:=aq r3 1;have f23:=aq r3 2;have f33:=aq r3 3;have PJ:=ag r3 0;have Gk:=ag r3 1;have Vk:=ag r3 2;have XB:=ag r3 3;have Za:=ag t3 0;have UW:=ag t3 1;have Uh:=ag t3 2;simp only[List.getElem?_toArray,List.getElem?_cons_zero,List.getElem?_cons_succ]at Za UW Uh PJ Gk Vk XB))
 go_region_with (go_at_call 223;refine(gq _ pb tv ae j2 (by exact vh) _ s9 _ h7).mono ?_;rintro e w4 ⟨rfl,qX⟩;have Et:=dF.below (by exact vh) qX;have za:=ax (fO nN) (aW qX (some pb));obtain⟨t4,r4,Mu,Ko,JZ⟩:=eU h ft za;have UA:=aq r4 0;have f14:=aq r4 1;have f24:=aq r4 2;have f34:=aq r4 3;have Gr:=ag r4 0;have yT:=ag r4 1;have KI:=ag r4 2;have TZ:=ag r4 3;have Tg:=ag t4 0;have Hb:=ag t4 1;have JK:=ag t4 2;simp only[List.getElem?_toArray,List.getElem?_cons_zero,List.getElem?_cons_succ]at Tg Hb JK Gr yT KI TZ)
 all_goals (go_wp2_with fail)
 all_goals (obtain⟨hu,gu,pu⟩:=gU r4 (.int .i64 a.at_) (.string a.pred) (.slice ad a.ak.length c) (.slice bd l.length d) Mu Et (Nat.le_refl _))
 all_goals (exact bodyPost_ret (v:=.tuple #[.agg #[.int .i64 a.at_,.string a.pred,.slice ad a.ak.length c,.slice bd l.length d],.bool false]) (by simp[results,Tryz.results179,go_sem,ag hu]) rfl ⟨_,_,_,_,_,_,_,_,rfl,pu,gu⟩)
theorem TO(w:World)(pb:Nat)(tv:Value)(ae:List Ax.Tok)(nx:Nat)(h:dF w pb tv ae nx)(j:Nat)(a:Ax.Atom)(hA:Hid (Ax.b8 ae nx=(some a,j)))(t1:Ax.Tok)(ye:Hid (ae[j]?=some t1))(h8:(t1.kind==8)=true)(j2:Nat)(b:List Ax.Atom)(hB:Hid (Ax.bV ae ae.length (j+1) []=(some b,j2)))(t2:Ax.Tok)(s9:Hid (ae[j2]?=some t2))(h7:(t2.kind==7)=true):
 Calls Tryz.prog 179 #[.pointer (some ⟨pb,0,none⟩)] w fun e w'=>∃ad c bd d l,e=.returned (.tuple #[.agg #[.int .i64 a.at_,.string a.pred,.slice ad a.ak.length c,.slice bd (List.length l) d],.bool true])∧dF w' pb tv ae (j2+1)∧w.grownBy w' (some pb)∧MR.ok w' ⟨(a,.slice ad a.ak.length c),.slice bd (List.length l) d,l⟩∧l.map Prod.fst=b:=by
 have vO:=lt_of_heap h.1
 go_enter Tryz.func179,Tryz.ntmps179
 go_wp2_with (first | (go_at_call 222;refine(jd _ _ _ _ _ _ _ (h.alloc _) hA).mono ?_;rintro e w1 ⟨ad,c,rfl,A3,ft,qC⟩;have fW:=A3.alloc (.cells #[.int .i64 a.at_,.string a.pred,.slice ad a.ak.length c] 219);have nU:=MA.alloc qC (.cells #[.int .i64 a.at_,.string a.pred,.slice ad a.ak.length c] 219)) | (go_at_call_of 223 (Value.int IntKind.i64 8);refine(du _ _ _ _ _ fW _ ye _ (by decide) h8).mono ?_;rintro e w2 ⟨rfl,jZ,eE⟩;have tA:=MA.step nU fW eE) | (go_at_call 224;refine(vE _ _ _ _ _ _ _ jZ hB).mono ?_;rintro e w3 ⟨bd,d,l,rfl,hl,vh,tm,pY,jC⟩;have nN:=ax eE tm;have Lg:=MA.step tA jZ tm;obtain⟨t3,r3,WC,VB,UL⟩:=eU h ft nN;have ZK:=aq r3 0;have f13:=aq r3 1;have f23:=aq r3 2;have f33:=aq r3 3;have PJ:=ag r3 0;have Gk:=ag r3 1;have Vk:=ag r3 2;have XB:=ag r3 3;have Za:=ag t3 0;have UW:=ag t3 1;have Uh:=ag t3 2;simp only[List.getElem?_toArray,List.getElem?_cons_zero,List.getElem?_cons_succ]at Za UW Uh PJ Gk Vk XB))
 go_region_with (go_at_call 223;refine(du _ pb tv ae j2 (by exact vh) _ s9 _ (by decide) h7).mono ?_;rintro e w4 ⟨rfl,Et,vG⟩;have za:=ax (fO nN) vG;have xK:=MR.step (w:=w3.drew) (r:=⟨(a,.slice ad a.ak.length c),.slice bd l.length d,l⟩) ⟨Lg,pY,jC⟩ (by exact vh) vG;obtain⟨t4,r4,Mu,Ko,JZ⟩:=eU h ft za;have UA:=aq r4 0;have f14:=aq r4 1;have f24:=aq r4 2;have f34:=aq r4 3;have Gr:=ag r4 0;have yT:=ag r4 1;have KI:=ag r4 2;have TZ:=ag r4 3;have Tg:=ag t4 0;have Hb:=ag t4 1;have JK:=ag t4 2;simp only[List.getElem?_toArray,List.getElem?_cons_zero,List.getElem?_cons_succ]at Tg Hb JK Gr yT KI TZ)
 all_goals (go_wp2_with fail)
 all_goals (obtain⟨hu,gu,pu⟩:=gU r4 (.int .i64 a.at_) (.string a.pred) (.slice ad a.ak.length c) (.slice bd l.length d) Mu Et (Nat.le_refl _))
 all_goals (exact bodyPost_ret (v:=.tuple #[.agg #[.int .i64 a.at_,.string a.pred,.slice ad a.ak.length c,.slice bd l.length d],.bool true]) (by simp[results,Tryz.results179,go_sem,ag hu]) rfl ⟨_,_,_,_,l,rfl,pu,gu,MR.rl r4 _ _ _ _ xK,hl.out⟩)
theorem Vy(w:World)(pb:Nat)(tv:Value)(ae:List Ax.Tok)(nx:Nat)(h:dF w pb tv ae nx)(j:Nat)(a:Ax.Atom)(hA:Hid (Ax.b8 ae nx=(some a,j)))(t1:Ax.Tok)(ye:Hid (ae[j]?=some t1))(h8:(t1.kind==8)=false)(h7:(t1.kind==7)=false):
 Calls Tryz.prog 179 #[.pointer (some ⟨pb,0,none⟩)] w fun e w'=>∃x y ad n c bd m d,e=.returned (.tuple #[.agg #[.int .i64 x,.string y,.slice ad n c,.slice bd m d],.bool false])∧dF w' pb tv ae j∧w.grownBy w' (some pb):=by
 have vO:=lt_of_heap h.1
 go_enter Tryz.func179,Tryz.ntmps179
 go_wp2_with (first | (go_at_call 222;refine(jd _ _ _ _ _ _ _ (h.alloc _) hA).mono ?_;rintro e w1 ⟨ad,c,rfl,A3,ft,qC⟩;have fW:=A3.alloc (.cells #[.int .i64 a.at_,.string a.pred,.slice ad a.ak.length c] 219);have nU:=MA.alloc qC (.cells #[.int .i64 a.at_,.string a.pred,.slice ad a.ak.length c] 219)) | (go_at_call_of 223 (Value.int IntKind.i64 8);refine(gq _ _ _ _ _ fW _ ye _ h8).mono ?_;rintro e w2 ⟨rfl,cw⟩;have jZ:=fW.below cw;have eE:=aW cw (some pb);have tA:=MA.step nU fW eE;obtain⟨t2,r2,O5,YQ,WH⟩:=eU h ft eE;have f02:=aq r2 0;have f12:=aq r2 1;have f22:=aq r2 2;have f32:=aq r2 3;have Tk:=ag r2 0;have IQ:=ag r2 1;have Yk:=ag r2 2;have k32:=ag r2 3;have c02:=ag t2 0;have Xh:=ag t2 1;have XO:=ag t2 2;simp only[List.getElem?_toArray,List.getElem?_cons_zero,List.getElem?_cons_succ]at c02 Xh XO Tk IQ Yk k32))
 go_region_with (go_at_call 223;refine(gq _ pb tv ae j (by exact jZ) _ ye _ h7).mono ?_;rintro e w4 ⟨rfl,qX⟩;have Et:=dF.below (by exact jZ) qX;have za:=ax (fO eE) (aW qX (some pb));obtain⟨t4,r4,Mu,Ko,JZ⟩:=eU h ft za;have UA:=aq r4 0;have f14:=aq r4 1;have f24:=aq r4 2;have f34:=aq r4 3;have Gr:=ag r4 0;have yT:=ag r4 1;have KI:=ag r4 2;have TZ:=ag r4 3;have Tg:=ag t4 0;have Hb:=ag t4 1;have JK:=ag t4 2;simp only[List.getElem?_toArray,List.getElem?_cons_zero,List.getElem?_cons_succ]at Tg Hb JK Gr yT KI TZ)
 all_goals (go_wp2_with fail)
 all_goals (obtain⟨hu,gu,pu⟩:=gU r4 (.int .i64 a.at_) (.string a.pred) (.slice ad a.ak.length c) (.slice none 0 0) Mu Et (Nat.le_refl _))
 all_goals (exact bodyPost_ret (v:=.tuple #[.agg #[.int .i64 a.at_,.string a.pred,.slice ad a.ak.length c,.slice none 0 0],.bool false]) (by simp[results,Tryz.results179,go_sem,ag hu]) rfl ⟨_,_,_,_,_,_,_,_,rfl,pu,gu⟩)
theorem SV(w:World)(pb:Nat)(tv:Value)(ae:List Ax.Tok)(nx:Nat)(h:dF w pb tv ae nx)(j:Nat)(a:Ax.Atom)(hA:Hid (Ax.b8 ae nx=(some a,j)))(t1:Ax.Tok)(ye:Hid (ae[j]?=some t1))(h8:(t1.kind==8)=false)(h7:(t1.kind==7)=true):
 Calls Tryz.prog 179 #[.pointer (some ⟨pb,0,none⟩)] w fun e w'=>∃ad c bd d l,e=.returned (.tuple #[.agg #[.int .i64 a.at_,.string a.pred,.slice ad a.ak.length c,.slice bd (List.length l) d],.bool true])∧dF w' pb tv ae (j+1)∧w.grownBy w' (some pb)∧MR.ok w' ⟨(a,.slice ad a.ak.length c),.slice bd (List.length l) d,l⟩∧l.map Prod.fst=[]:=by
 have vO:=lt_of_heap h.1
 go_enter Tryz.func179,Tryz.ntmps179
 go_wp2_with (first | (go_at_call 222;refine(jd _ _ _ _ _ _ _ (h.alloc _) hA).mono ?_;rintro e w1 ⟨ad,c,rfl,A3,ft,qC⟩;have fW:=A3.alloc (.cells #[.int .i64 a.at_,.string a.pred,.slice ad a.ak.length c] 219);have nU:=MA.alloc qC (.cells #[.int .i64 a.at_,.string a.pred,.slice ad a.ak.length c] 219)) | (go_at_call_of 223 (Value.int IntKind.i64 8);refine(gq _ _ _ _ _ fW _ ye _ h8).mono ?_;rintro e w2 ⟨rfl,cw⟩;have jZ:=fW.below cw;have eE:=aW cw (some pb);have tA:=MA.step nU fW eE;obtain⟨t2,r2,O5,YQ,WH⟩:=eU h ft eE;have f02:=aq r2 0;have f12:=aq r2 1;have f22:=aq r2 2;have f32:=aq r2 3;have Tk:=ag r2 0;have IQ:=ag r2 1;have Yk:=ag r2 2;have k32:=ag r2 3;have c02:=ag t2 0;have Xh:=ag t2 1;have XO:=ag t2 2;simp only[List.getElem?_toArray,List.getElem?_cons_zero,List.getElem?_cons_succ]at c02 Xh XO Tk IQ Yk k32))
 go_region_with (go_at_call 223;refine(du _ pb tv ae j (by exact jZ) _ ye _ (by decide) h7).mono ?_;rintro e w4 ⟨rfl,Et,vG⟩;have za:=ax (fO eE) vG;have xK:=MR.step (w:=w2.drew) (r:=⟨(a,.slice ad a.ak.length c),.slice none 0 0,[]⟩) ⟨tA,World.ownsRow_nil _ _ _ _,Io _⟩ (by exact jZ) vG;obtain⟨t4,r4,Mu,Ko,JZ⟩:=eU h ft za;have UA:=aq r4 0;have f14:=aq r4 1;have f24:=aq r4 2;have f34:=aq r4 3;have Gr:=ag r4 0;have yT:=ag r4 1;have KI:=ag r4 2;have TZ:=ag r4 3;have Tg:=ag t4 0;have Hb:=ag t4 1;have JK:=ag t4 2;simp only[List.getElem?_toArray,List.getElem?_cons_zero,List.getElem?_cons_succ]at Tg Hb JK Gr yT KI TZ)
 all_goals (go_wp2_with fail)
 all_goals (obtain⟨hu,gu,pu⟩:=gU r4 (.int .i64 a.at_) (.string a.pred) (.slice ad a.ak.length c) (.slice none 0 0) Mu Et (Nat.le_refl _))
 all_goals (exact bodyPost_ret (v:=.tuple #[.agg #[.int .i64 a.at_,.string a.pred,.slice ad a.ak.length c,.slice none 0 0],.bool true]) (by simp[results,Tryz.results179,go_sem,ag hu]) rfl ⟨_,_,none,0,[],rfl,pu,gu,MR.rl r4 _ _ _ _ xK,rfl⟩)
end
end Go.Proofs.YtdmicblafmhflaaGreatDoor

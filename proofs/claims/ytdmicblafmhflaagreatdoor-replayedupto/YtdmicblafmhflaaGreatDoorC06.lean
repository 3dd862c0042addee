/- The parser: atoms. -/
import Derived.Test.YtdmicblafmhflaaGreatDoorC05
import Derived.Test.YtdmicblafmhflaaGreatDoorC00
set_option linter.unusedSimpArgs false
set_option linter.unusedVariables false
set_option maxHeartbeats 2000000
namespace Go.Proofs.YtdmicblafmhflaaGreatDoor
section
open Go.RowKit
abbrev MA:=Ax.Atom×Value
def MA.ok(w:World)(x:MA):Prop:=w.ownsRow 0 310 2 x.2 x.1.ag.length (cg x.1.ag)
def bx(l:List MA):List Value:=l.flatMap fun x=>[.int .i64 x.1.at_,.string x.1.pred,x.2]
theorem oK(l:List MA)(x:MA):bx (l++[x])=bx l++[.int .i64 x.1.at_,.string x.1.pred,x.2]:=by simp[bx]
def sV(w:World)(l:List MA):Prop:=∀x,x∈l→x.ok w
theorem Tryz.CW:(Tryz.prog.info? 219).map (fun i=>(i.zero,i.size,i.bytes))=some (some (.agg #[.int .i64 0,.string ByteArray.empty,.slice none 0 0]),3,48):=by kernel_rfl
theorem Ix(w:World):sV w []:=fun _ h=>by cases h
theorem mJ{w w':World}{l:List MA}(h:sV w l)(hb:Below w.heap.size w w'):sV w' l:=fun x hx=>ae (h x hx) hb
theorem Dv{w w':World}{l:List MA}{row:Option Nat}{e':TypeId}(h:sV w l)(hg:w.grownBy w' row)(hr:∀k,row=some k→∃cur fz,w.heap[k]?=some (.cells cur e' fz))(cA:310≠e'):sV w' l:=
 fun x hx=>cX (h x hx) hg hr cA
theorem sF{w w':World}{l:List MA}{pb:Nat}{tv:Value}{aa:List Ax.Tok}{nx:Nat}(h:sV w l)(hp:dd w pb tv aa nx)(hg:w.grownBy w' (some pb)):sV w' l:=
 fun x hx=>cV (h x hx) hp hg (by decide)
theorem MG{w:World}{l:List MA}{x:MA}(h:sV w l)(hx:x.ok w):sV w (l++[x]):=by
 intro y hy
 rcases List.mem_append.1 hy with hy | hy
 · exact h y hy
 · simp at hy;subst hy;exact hx
theorem iR(w:World)(pb:Nat)(tv:Value)(aa:List Ax.Tok)(nx j:Nat)(a:Ax.Atom)(h:dd w pb tv aa nx)(hR:Hid (Ax.b9 aa nx=(some a,j))):
 Calls Tryz.prog 222 #[.pointer (some ⟨pb,0,none⟩)] w fun e w'=>∃ad c,e=.returned (.tuple #[.agg #[.int .i64 a.at_,.string a.pred,.slice ad a.ag.length c],.bool true])∧dd w' pb tv aa j∧w.grownBy w' (some pb)∧MA.ok w' (a,.slice ad a.ag.length c):=by
 refine(CQ w pb tv aa nx h).mono ?_
 rintro e w' ⟨hp,hg,hc⟩
 rw[hR.out]at hp hc
 rcases hc with⟨ad,c,a',rfl,hn,al⟩ | ⟨_,_,_,_,_,_,hn⟩
 · simp at hn;subst hn
   exact⟨ad,c,rfl,hp,hg,aG al (Nat.zero_le _)⟩
 · simp at hn
theorem zM(w:World)(pb:Nat)(tv:Value)(aa:List Ax.Tok)(nx j:Nat)(h:dd w pb tv aa nx)(hR:Hid (Ax.b9 aa nx=(none,j))):
 Calls Tryz.prog 222 #[.pointer (some ⟨pb,0,none⟩)] w fun e w'=>∃x y ad n c,e=.returned (.tuple #[.agg #[.int .i64 x,.string y,.slice ad n c],.bool false])∧dd w' pb tv aa j∧w.grownBy w' (some pb):=by
 refine(CQ w pb tv aa nx h).mono ?_
 rintro e w' ⟨hp,hg,hc⟩
 rw[hR.out]at hp hc
 rcases hc with⟨ad,c,a',_,hn,_⟩ | ⟨x,y,ad,n,c,rfl,hn⟩
 · simp at hn
 · exact⟨x,y,ad,n,c,rfl,hp,hg⟩
theorem uS{w w1 w2:World}{pb:Nat}{tv v:Value}{aa:List Ax.Tok}{nx n:Nat}{xs:List Value}{o1 o2:Obj}{l:List MA}{x:MA}(bq:w1.ownsRow w.heap.size 219 3 v n xs)(fS:dd w1 pb tv aa nx)(hg:w.grownBy w1 (some pb))(dD:sV w1 l)(hx:x.ok w1)
 (bG:((w1.alloc o1).alloc o2).grownBy w2 v.ownBlock):dd w2 pb tv aa nx∧w.grownBy w2 (some pb)∧sV w2 (l++[x]):=
 ⟨((fS.alloc o1).alloc o2).row bG (bj ((bq.alloc o1).alloc o2)) (by decide) (by decide),
  oR (grownBy_alloc (grownBy_alloc hg _) _) bG (fun k hk=>(bq.lt k hk).1),
  Dv (w:=(w1.alloc o1).alloc o2) (fun y hy=>World.ownsRow.alloc (World.ownsRow.alloc (MG dD hx y hy) _) _) bG (bj ((bq.alloc o1).alloc o2)) (by decide)⟩
def Oe(w wr:World)(pb:Nat)(tv:Value)(aa:List Ax.Tok)(v:Value)(nx k:Nat)(acc:List MA)(R:Option (List Ax.Atom)×Nat):Prop:=
 dd wr pb tv aa nx∧wr.ownsRow w.heap.size 219 3 v acc.length (bx acc)∧sV wr acc∧w.grownBy wr (some pb)∧acc.length≤nx∧aa.length≤nx+k∧Ax.bV aa k nx (acc.map Prod.fst)=R
theorem AQ(w:World)(pb:Nat)(tv:Value)(aa:List Ax.Tok)(nx:Nat)(h:dd w pb tv aa nx):
 Calls Tryz.prog 224 #[.pointer (some ⟨pb,0,none⟩)] w fun e w'=>dd w' pb tv aa (Ax.bV aa aa.length nx []).2∧w.grownBy w' (some pb)∧
  ((∃v l,e=.returned (.tuple #[v,.bool true])∧(Ax.bV aa aa.length nx []).1=some (l.map Prod.fst)∧w'.ownsRow w.heap.size 219 3 v l.length (bx l)∧sV w' l)∨
   (e=.returned (.tuple #[.slice none 0 0,.bool false])∧(Ax.bV aa aa.length nx []).1=none)):=by
 obtain⟨i0,hi,ew,dZ,dX⟩:=info_parts Tryz.CW
 generalize hR:Ax.bV aa aa.length nx []=R
 have ye:=lt_of_heap h.1
 go_enter Tryz.func224,Tryz.ntmps224
 go_wp2_with fail
 go_loopg [4] aa.length (fun k v wr=>∃(i:Nat) (acc:List MA),Oe w wr pb tv aa v i k acc R)
 case atStart=>exact⟨nx,[],h,World.ownsRow_nil _ _ _ _,Ix _,hO _ _,Nat.zero_le _,by omega,hR⟩
 case round=>
  obtain⟨i,acc,hp,al,dD,hg,PH,hlen,hr⟩:=hrel
  have aE:=hp.2.2.1
  have hle:=hp.2.2.2.1
  have lY:=hp.2.2.2.2
  have cE:=hg.size
  cases gk with
  | zero=>omega
  | succ k=>
  have Ay:Hid (Ax.bV aa (k+1) i (acc.map Prod.fst)=R):=hr
  clear hr hR
  rcases E5:Ax.b9 aa i with⟨_ | a,j⟩
  · have hA:Hid (Ax.b9 aa i=(none,j)):=E5
    clear E5
    go_wp2_with (go_at_call 222;refine(zM _ _ _ _ _ _ hp hA).mono ?_;rintro e w1 ⟨x,y,ad,n,c,rfl,fS,fy⟩)
    go_ret2
    have e:=Ay.out.symm.trans (Ax.jB hA.out)
    exact⟨by rw[e];exact fS.alloc _,grownBy_alloc (aq hg fy) _,.inr ⟨rfl,by rw[e]⟩⟩
  · have hA:Hid (Ax.b9 aa i=(some a,j)):=E5
    have YG:=Ax.sg E5
    have hj:=Ax.kF lY aE E5
    clear E5
    obtain⟨t',LF⟩:∃t,aa[j]?=some t:=⟨_,List.getElem?_eq_getElem hj⟩
    have nV:Hid (aa[j]?=some t'):=LF
    clear LF
    cases h6:(t'.kind==6)
    case true=>
     have mw:Hid (Ax.bV aa (k+1) i (acc.map Prod.fst)=Ax.bV aa k (j+1) (acc.map Prod.fst++[a])):=Ax.j9 hA.out (by rw[Ax.cP nV.out];simpa using h6)
     go_wp2_with (first | (go_at_call 222;refine(iR _ _ _ _ _ _ _ hp hA).mono ?_;rintro e w1 ⟨ad,c,rfl,fS,fy,qw⟩;have bq:=cV al hp fy (by decide);have kV:=fy.size;have nS:=sF dD hp fy) | (at_builtin;refine wpList_append_own _ rfl (.tmp 14) (.tmp 16) 220 rfl w.heap.size 219 i0 _ 3 48 Tryz.underlying220 hi ew dZ dX rfl (by decide) _ _ _ rfl ((bq.alloc _).alloc _) ⟨w1.heap.size+1,0,none⟩ 1 1 [.int .i64 a.at_,.string a.pred,.slice ad a.ag.length c] rfl rfl (eL _ _ _ _) (by simp[Value.oneCell']) (by unfold maxLen;omega) (by omega) (by simp;omega) ?_;intro v2 w2 aR bG _;obtain⟨iz,dM,sO⟩:=uS bq fS (aq hg fy) nS qw bG;clear bG bq fS nS qw) | (go_at_call 223;refine(de _ _ _ _ _ iz _ nV _ (by decide) h6).mono ?_;rintro e w3 ⟨rfl,vk,nP⟩;have fB:=cV aR iz nP (by decide);have Lv:=sF sO iz nP))
     go_roundg k
     case measure=>omega
     case rel=>
      refine⟨j+1,acc++[(a,.slice ad a.ag.length c)],vk, ?_,Lv,aq dM nP,by simp;omega,by omega, ?_⟩
      · rw[oK];simpa using fB
      · rw[List.map_append];exact mw.out.symm.trans Ay.out
    case false=>
     have mw:Hid (Ax.bV aa (k+1) i (acc.map Prod.fst)=(some (acc.map Prod.fst++[a]),j)):=Ax.gL hA.out (by rw[Ax.cP nV.out];simpa using h6)
     go_wp2_with (first | (go_at_call 222;refine(iR _ _ _ _ _ _ _ hp hA).mono ?_;rintro e w1 ⟨ad,c,rfl,fS,fy,qw⟩;have bq:=cV al hp fy (by decide);have kV:=fy.size;have nS:=sF dD hp fy) | (at_builtin;refine wpList_append_own _ rfl (.tmp 14) (.tmp 16) 220 rfl w.heap.size 219 i0 _ 3 48 Tryz.underlying220 hi ew dZ dX rfl (by decide) _ _ _ rfl ((bq.alloc _).alloc _) ⟨w1.heap.size+1,0,none⟩ 1 1 [.int .i64 a.at_,.string a.pred,.slice ad a.ag.length c] rfl rfl (eL _ _ _ _) (by simp[Value.oneCell']) (by unfold maxLen;omega) (by omega) (by simp;omega) ?_;intro v2 w2 aR bG _;obtain⟨iz,dM,sO⟩:=uS bq fS (aq hg fy) nS qw bG;clear bG bq fS nS qw) | (go_at_call 223;refine(gf _ _ _ _ _ iz _ nV _ h6).mono ?_;rintro e w3 ⟨rfl,eA⟩;have fB:=ae aR eA;have Lv:=mJ sO eA))
     go_ret2
     have e:=Ay.out.symm.trans mw.out
     refine⟨by rw[e];exact iz.below eA,aq dM (aV eA _),.inl ⟨_,acc++[(a,.slice ad a.ag.length c)],rfl,by rw[e];simp, ?_,Lv⟩⟩
     rw[oK];simpa using fB
end
/- The parser: rule. -/
section
open Go.RowKit
structure MR where
 head:MA
 bv:Value
 body:List MA
def MR.ok(w:World)(r:MR):Prop:=r.head.ok w∧w.ownsRow 0 219 3 r.bv r.body.length (bx r.body)∧sV w r.body
def MR.aw(r:MR):Ax.br:=⟨r.head.1,r.body.map Prod.fst⟩
theorem MA.alloc{w:World}{x:MA}(h:MA.ok w x)(o:Obj):MA.ok (w.alloc o) x:=World.ownsRow.alloc h o
theorem MA.step{w w':World}{x:MA}{pb:Nat}{tv:Value}{aa:List Ax.Tok}{nx:Nat}(h:MA.ok w x)(hp:dd w pb tv aa nx)(hg:w.grownBy w' (some pb)):MA.ok w' x:=cV h hp hg (by decide)
theorem MR.type{w w':World}{r:MR}{row:Option Nat}{e':TypeId}(h:MR.ok w r)(hg:w.grownBy w' row)(hr:∀k,row=some k→∃cur fz,w.heap[k]?=some (.cells cur e' fz))(h1:310≠e')(h2:219≠e'):MR.ok w' r:=
 ⟨cX h.1 hg hr h1,cX h.2.1 hg hr h2,Dv h.2.2 hg hr h1⟩
theorem MR.step{w w':World}{r:MR}{pb:Nat}{tv:Value}{aa:List Ax.Tok}{nx:Nat}(h:MR.ok w r)(hp:dd w pb tv aa nx)(hg:w.grownBy w' (some pb)):MR.ok w' r:=
 ⟨MA.step h.1 hp hg,cV h.2.1 hp hg (by decide),sF h.2.2 hp hg⟩
theorem MR.below{w w':World}{r:MR}(h:MR.ok w r)(hb:Below w.heap.size w w'):MR.ok w' r:=⟨ae h.1 hb,ae h.2.1 hb,mJ h.2.2 hb⟩
theorem F1(w:World)(pb:Nat)(tv:Value)(aa:List Ax.Tok)(nx j:Nat)(h:dd w pb tv aa nx)(hR:Hid (Ax.bV aa aa.length nx []=(none,j))):
 Calls Tryz.prog 224 #[.pointer (some ⟨pb,0,none⟩)] w fun e w'=>e=.returned (.tuple #[.slice none 0 0,.bool false])∧dd w' pb tv aa j∧w.grownBy w' (some pb):=by
 refine(AQ w pb tv aa nx h).mono ?_
 rintro e w' ⟨hp,hg,hc⟩
 rw[hR.out]at hp hc
 rcases hc with⟨v,ts,_,hn,_⟩ | ⟨rfl,_⟩
 · simp at hn
 · exact⟨rfl,hp,hg⟩
theorem yq(w:World)(pb:Nat)(tv:Value)(aa:List Ax.Tok)(nx j:Nat)(b:List Ax.Atom)(h:dd w pb tv aa nx)(hR:Hid (Ax.bV aa aa.length nx []=(some b,j))):
 Calls Tryz.prog 224 #[.pointer (some ⟨pb,0,none⟩)] w fun e w'=>∃bd d l,e=.returned (.tuple #[.slice bd (List.length l) d,.bool true])∧Hid (l.map Prod.fst=b)∧dd w' pb tv aa j∧w.grownBy w' (some pb)∧w'.ownsRow 0 219 3 (.slice bd l.length d) l.length (bx l)∧sV w' l:=by
 refine(AQ w pb tv aa nx h).mono ?_
 rintro e w' ⟨hp,hg,hc⟩
 rw[hR.out]at hp hc
 rcases hc with⟨v,l,rfl,hn,al,dD⟩ | ⟨_,hn⟩
 · obtain⟨a,c,rfl⟩:=ah al
   simp only[Option.some.injEq]at hn
   exact⟨a,c,l,rfl,hn.symm,hp,hg,aG al (Nat.zero_le _),dD⟩
 · simp at hn
theorem eQ{w w1 w2:World}{pb:Nat}{tv:Value}{aa:List Ax.Tok}{nx:Nat}{o1 o2:Obj}(h:dd w pb tv aa nx)(fy:(w.alloc o1).grownBy w1 (some pb))(dM:(w1.alloc o2).grownBy w2 (some pb)):
 w2.heap[w1.heap.size]?=some o2∧w2.heap[w.heap.size]?=some o1∧w.grownBy w2 (some pb)∧w.heap.size<w1.heap.size∧w1.heap.size<w2.heap.size:=by
 have hp:=lt_of_heap h.1
 have kV:=fy.size
 have zX:=dM.size
 simp only[World.size_alloc]at kV zX
 refine⟨?_, ?_, ?_,by omega,by omega⟩
 · rw[dM.block _ (by simp) (by simp;omega)]
   exact heap_alloc_new _ _
 · rw[dM.block _ (by simp;omega) (by simp;omega),Below.heap_alloc _ _ _ (by omega),fy.block _ (by simp) (by simp;omega)]
   exact heap_alloc_new _ _
 · exact aq (aq (aq (World.grownBy_alloc w o1 _) fy) (World.grownBy_alloc _ _ _)) dM
theorem rD{w2:World}{k:Nat}{a b c d:Value}{T:TypeId}(r2:w2.heap[k]?=some (.cells #[a,b,c,d] T (0,0)))(x y z u:Value):
 ∃w3 w4 w5,w3=w2.setCell ⟨k,0,none⟩ x∧w4=w3.setCell ⟨k,1,none⟩ y∧w5=w4.setCell ⟨k,2,none⟩ z∧
  (∀w' row,(w'=w3∨w'=w4∨w'=w5∨w'=w2)→row=some k→∃cur fz,w'.heap[k]?=some (.cells cur T fz))∧
  ((((w2.setCell ⟨k,0,none⟩ x).setCell ⟨k,1,none⟩ y).setCell ⟨k,2,none⟩ z).setCell ⟨k,3,none⟩ u).heap[k]?=some (.cells #[x,y,z,u] T (0,0)):=by
 have h0:=heap_setCell_same (off:=0) r2 x
 have h1:=heap_setCell_same (off:=1) h0 y
 have h2:=heap_setCell_same (off:=2) h1 z
 have h3:=heap_setCell_same (off:=3) h2 u
 refine⟨_,_,_,rfl,rfl,rfl, ?_,by rw[h3];rfl⟩
 rintro w' row (rfl | rfl | rfl | rfl) _
 · exact⟨_,_,h0⟩
 · exact⟨_,_,h1⟩
 · exact⟨_,_,h2⟩
 · exact⟨_,_,r2⟩
theorem gG{w w2:World}{pb:Nat}{tv:Value}{aa:List Ax.Tok}{nx k:Nat}{a b c d:Value}(r2:w2.heap[k]?=some (.cells #[a,b,c,d] 222 (0,0)))(x y z u:Value)(gw:w.grownBy w2 (some pb))(hp:dd w2 pb tv aa nx)(hk:w.heap.size≤k):
 ((((w2.setCell ⟨k,0,none⟩ x).setCell ⟨k,1,none⟩ y).setCell ⟨k,2,none⟩ z).setCell ⟨k,3,none⟩ u).heap[k]?=some (.cells #[x,y,z,u] 222 (0,0))∧w.grownBy ((((w2.setCell ⟨k,0,none⟩ x).setCell ⟨k,1,none⟩ y).setCell ⟨k,2,none⟩ z).setCell ⟨k,3,none⟩ u) (some pb)∧dd ((((w2.setCell ⟨k,0,none⟩ x).setCell ⟨k,1,none⟩ y).setCell ⟨k,2,none⟩ z).setCell ⟨k,3,none⟩ u) pb tv aa nx:=by
 obtain⟨_,_,_,rfl,rfl,rfl,lN,dU⟩:=rD r2 x y z u
 refine⟨dU,cY (cY (cY (cY gw hk x) hk y) hk z) hk u, ?_⟩
 refine(((hp.row (grownBy_setCell _ _) (e':=222) (fun j hj=> ?_) (by decide) (by decide)).row (grownBy_setCell _ _) (e':=222) (fun j hj=> ?_) (by decide) (by decide)).row (grownBy_setCell _ _) (e':=222) (fun j hj=> ?_) (by decide) (by decide)).row (grownBy_setCell _ _) (e':=222) (fun j hj=> ?_) (by decide) (by decide)
 all_goals (cases hj)
 · exact lN _ _ (.inr (.inr (.inr rfl))) rfl
 · exact lN _ _ (.inl rfl) rfl
 · exact lN _ _ (.inr (.inl rfl)) rfl
 · exact lN _ _ (.inr (.inr (.inl rfl))) rfl
theorem MR.rD{w2:World}{k:Nat}{a b c d:Value}(r2:w2.heap[k]?=some (.cells #[a,b,c,d] 222 (0,0)))(x y z u:Value){r:MR}(h:MR.ok w2 r):
 MR.ok ((((w2.setCell ⟨k,0,none⟩ x).setCell ⟨k,1,none⟩ y).setCell ⟨k,2,none⟩ z).setCell ⟨k,3,none⟩ u) r:=by
 obtain⟨_,_,_,rfl,rfl,rfl,lN,dU⟩:=Go.Proofs.YtdmicblafmhflaaGreatDoor.rD r2 x y z u
 refine MR.type (MR.type (MR.type (MR.type h (grownBy_setCell _ _) (e':=222) (fun j hj=> ?_) (by decide) (by decide)) (grownBy_setCell _ _) (e':=222) (fun j hj=> ?_) (by decide) (by decide)) (grownBy_setCell _ _) (e':=222) (fun j hj=> ?_) (by decide) (by decide)) (grownBy_setCell _ _) (e':=222) (fun j hj=> ?_) (by decide) (by decide)
 all_goals (cases hj)
 · exact lN _ _ (.inr (.inr (.inr rfl))) rfl
 · exact lN _ _ (.inl rfl) rfl
 · exact lN _ _ (.inr (.inl rfl)) rfl
 · exact lN _ _ (.inr (.inr (.inl rfl))) rfl
theorem Ed{w w1:World}{pb:Nat}{tv:Value}{aa:List Ax.Tok}{nx:Nat}{o1:Obj}(h:dd w pb tv aa nx)(fy:(w.alloc o1).grownBy w1 (some pb)):
 w1.heap[w.heap.size]?=some o1∧w.grownBy w1 (some pb)∧w.heap.size<w1.heap.size:=by
 have hp:=lt_of_heap h.1
 have kV:=fy.size
 simp only[World.size_alloc]at kV
 refine⟨?_,aq (World.grownBy_alloc w o1 _) fy,by omega⟩
 rw[fy.block _ (by simp) (by simp;omega)]
 exact heap_alloc_new _ _
theorem UB(w:World)(pb:Nat)(tv:Value)(aa:List Ax.Tok)(nx:Nat)(h:dd w pb tv aa nx)(j:Nat)(hA:Hid (Ax.b9 aa nx=(none,j))):
 Calls Tryz.prog 179 #[.pointer (some ⟨pb,0,none⟩)] w fun e w'=>∃x y ad n c bd m d,e=.returned (.tuple #[.agg #[.int .i64 x,.string y,.slice ad n c,.slice bd m d],.bool false])∧dd w' pb tv aa j∧w.grownBy w' (some pb):=by
 have ye:=lt_of_heap h.1
 go_enter Tryz.func179,Tryz.ntmps179
 go_wp2_with (go_at_call 222;refine(zM _ _ _ _ _ _ (h.alloc _) hA).mono ?_;rintro e w1 ⟨x,y,ad,n,c,rfl,fS,fy⟩;obtain⟨r1,Kz,R0⟩:=Ed h fy;have f0:=af r1 0;have f1:=af r1 1;have f2:=af r1 2;have f3:=af r1 3;have k0:=ab r1 0;have k1:=ab r1 1;have k2:=ab r1 2;have k3:=ab r1 3;simp only[List.getElem?_toArray,List.getElem?_cons_zero,List.getElem?_cons_succ]at k0 k1 k2 k3)
 obtain⟨hu,gu,pu⟩:=gG r1 (.int .i64 0) (.string ⟨#[]⟩) (.slice none 0 0) (.slice none 0 0) Kz fS (Nat.le_refl _)
 have hu':=(Below.heap_alloc _ (.cells #[.int .i64 x,.string y,.slice ad n c] 219) _ (lt_of_heap hu)).trans hu
 exact bodyPost_ret (v:=.tuple #[.agg #[.int .i64 0,.string ⟨#[]⟩,.slice none 0 0,.slice none 0 0],.bool false]) (by simp[results,Tryz.results179,go_sem,ab hu']) rfl ⟨_,_,_,_,_,_,_,_,rfl,pu.alloc _,grownBy_alloc gu _⟩
theorem Vx(w:World)(pb:Nat)(tv:Value)(aa:List Ax.Tok)(nx:Nat)(h:dd w pb tv aa nx)(j:Nat)(a:Ax.Atom)(hA:Hid (Ax.b9 aa nx=(some a,j)))(t1:Ax.Tok)(uv:Hid (aa[j]?=some t1))(h8:(t1.kind==8)=true)(j2:Nat)(hB:Hid (Ax.bV aa aa.length (j+1) []=(none,j2))):
 Calls Tryz.prog 179 #[.pointer (some ⟨pb,0,none⟩)] w fun e w'=>∃x y ad n c bd m d,e=.returned (.tuple #[.agg #[.int .i64 x,.string y,.slice ad n c,.slice bd m d],.bool false])∧dd w' pb tv aa j2∧w.grownBy w' (some pb):=by
 have ye:=lt_of_heap h.1
 go_enter Tryz.func179,Tryz.ntmps179
 go_wp2_with (first | (go_at_call 222;refine(iR _ _ _ _ _ _ _ (h.alloc _) hA).mono ?_;rintro e w1 ⟨ad,c,rfl,Ck,fy,qw⟩;have fS:=Ck.alloc (.cells #[.int .i64 a.at_,.string a.pred,.slice ad a.ag.length c] 219);have nS:=MA.alloc qw (.cells #[.int .i64 a.at_,.string a.pred,.slice ad a.ag.length c] 219)) | (go_at_call_of 223 (Value.int IntKind.i64 8);refine(de _ _ _ _ _ fS _ uv _ (by decide) h8).mono ?_;rintro e w2 ⟨rfl,iz,dM⟩;have sO:=MA.step nS fS dM) | (go_at_call 224;refine(F1 _ _ _ _ _ _ iz hB).mono ?_;rintro e w3 ⟨rfl,vk,tD⟩;have nP:=aq dM tD;obtain⟨t3,r3,Xx,VF,US⟩:=eQ h fy nP;have QH:=af r3 0;have f13:=af r3 1;have f23:=af r3 2;have f33:=af r3 3;have Cc:=ab r3 0;have vr:=ab r3 1;have Vt:=ab r3 2;have Zs:=ab r3 3;have X8:=ab t3 0;have vh:=ab t3 1;have TZ:=ab t3 2;simp only[List.getElem?_toArray,List.getElem?_cons_zero,List.getElem?_cons_succ]at X8 vh TZ Cc vr Vt Zs))
 obtain⟨hu,gu,pu⟩:=gG r3 (.int .i64 0) (.string ⟨#[]⟩) (.slice none 0 0) (.slice none 0 0) Xx vk (Nat.le_refl _)
 exact bodyPost_ret (v:=.tuple #[.agg #[.int .i64 0,.string ⟨#[]⟩,.slice none 0 0,.slice none 0 0],.bool false]) (by simp[results,Tryz.results179,go_sem,ab hu]) rfl ⟨_,_,_,_,_,_,_,_,rfl,pu,gu⟩
end
/- The parser: rule, its last region. -/
section
open Go.RowKit
theorem Uu(w:World)(pb:Nat)(tv:Value)(aa:List Ax.Tok)(nx:Nat)(h:dd w pb tv aa nx)(j:Nat)(a:Ax.Atom)(hA:Hid (Ax.b9 aa nx=(some a,j)))(t1:Ax.Tok)(uv:Hid (aa[j]?=some t1))(h8:(t1.kind==8)=true)(j2:Nat)(b:List Ax.Atom)(hB:Hid (Ax.bV aa aa.length (j+1) []=(some b,j2)))(t2:Ax.Tok)(qy:Hid (aa[j2]?=some t2))(h7:(t2.kind==7)=false):
 Calls Tryz.prog 179 #[.pointer (some ⟨pb,0,none⟩)] w fun e w'=>∃x y ad n c bd m d,e=.returned (.tuple #[.agg #[.int .i64 x,.string y,.slice ad n c,.slice bd m d],.bool false])∧dd w' pb tv aa j2∧w.grownBy w' (some pb):=by
 have ye:=lt_of_heap h.1
 go_enter Tryz.func179,Tryz.ntmps179
 go_wp2_with (first | (go_at_call 222;refine(iR _ _ _ _ _ _ _ (h.alloc _) hA).mono ?_;rintro e w1 ⟨ad,c,rfl,Ck,fy,qw⟩;have fS:=Ck.alloc (.cells #[.int .i64 a.at_,.string a.pred,.slice ad a.ag.length c] 219);have nS:=MA.alloc qw (.cells #[.int .i64 a.at_,.string a.pred,.slice ad a.ag.length c] 219)) | (go_at_call_of 223 (Value.int IntKind.i64 8);refine(de _ _ _ _ _ fS _ uv _ (by decide) h8).mono ?_;rintro e w2 ⟨rfl,iz,dM⟩;have sO:=MA.step nS fS dM) | (go_at_call 224;refine(yq _ _ _ _ _ _ _ iz hB).mono ?_;rintro e w3 ⟨bd,d,l,rfl,hl,vk,tD,pT,jz⟩;have nP:=aq dM tD;have Lv:=MA.step sO iz tD;obtain⟨t3,r3,Xx,VF,US⟩:=eQ h fy nP;have QH:=af r3 0;have f13:=af r3 1;have f23:=af r3 2;have f33:=af r3 3;have Cc:=ab r3 0;have vr:=ab r3 1;have Vt:=ab r3 2;have Zs:=ab r3 3;have X8:=ab t3 0;have vh:=ab t3 1;have TZ:=ab t3 2;simp only[List.getElem?_toArray,List.getElem?_cons_zero,List.getElem?_cons_succ]at X8 vh TZ Cc vr Vt Zs))
 go_region_with (go_at_call 223;refine(gf _ pb tv aa j2 (by exact vk) _ qy _ h7).mono ?_;rintro e w4 ⟨rfl,kW⟩;have C2:=dd.below (by exact vk) kW;have ue:=aq (fJ nP) (aV kW (some pb));obtain⟨t4,r4,M9,K6,Jr⟩:=eQ h fy ue;have Py:=af r4 0;have f14:=af r4 1;have f24:=af r4 2;have f34:=af r4 3;have zC:=ab r4 0;have tT:=ab r4 1;have JE:=ab r4 2;have Vu:=ab r4 3;have Vn:=ab t4 0;have Iw:=ab t4 1;have JA:=ab t4 2;simp only[List.getElem?_toArray,List.getElem?_cons_zero,List.getElem?_cons_succ]at Vn Iw JA zC tT JE Vu)
 all_goals (go_wp2_with fail)
 all_goals (obtain⟨hu,gu,pu⟩:=gG r4 (.int .i64 a.at_) (.string a.pred) (.slice ad a.ag.length c) (.slice bd l.length d) M9 C2 (Nat.le_refl _))
 all_goals (exact bodyPost_ret (v:=.tuple #[.agg #[.int .i64 a.at_,.string a.pred,.slice ad a.ag.length c,.slice bd l.length d],.bool false]) (by simp[results,Tryz.results179,go_sem,ab hu]) rfl ⟨_,_,_,_,_,_,_,_,rfl,pu,gu⟩)
theorem T7(w:World)(pb:Nat)(tv:Value)(aa:List Ax.Tok)(nx:Nat)(h:dd w pb tv aa nx)(j:Nat)(a:Ax.Atom)(hA:Hid (Ax.b9 aa nx=(some a,j)))(t1:Ax.Tok)(uv:Hid (aa[j]?=some t1))(h8:(t1.kind==8)=true)(j2:Nat)(b:List Ax.Atom)(hB:Hid (Ax.bV aa aa.length (j+1) []=(some b,j2)))(t2:Ax.Tok)(qy:Hid (aa[j2]?=some t2))(h7:(t2.kind==7)=true):
 Calls Tryz.prog 179 #[.pointer (some ⟨pb,0,none⟩)] w fun e w'=>∃ad c bd d l,e=.returned (.tuple #[.agg #[.int .i64 a.at_,.string a.pred,.slice ad a.ag.length c,.slice bd (List.length l) d],.bool true])∧dd w' pb tv aa (j2+1)∧w.grownBy w' (some pb)∧MR.ok w' ⟨(a,.slice ad a.ag.length c),.slice bd (List.length l) d,l⟩∧l.map Prod.fst=b:=by
 have ye:=lt_of_heap h.1
 go_enter Tryz.func179,Tryz.ntmps179
 go_wp2_with (first | (go_at_call 222;refine(iR _ _ _ _ _ _ _ (h.alloc _) hA).mono ?_;rintro e w1 ⟨ad,c,rfl,Ck,fy,qw⟩;have fS:=Ck.alloc (.cells #[.int .i64 a.at_,.string a.pred,.slice ad a.ag.length c] 219);have nS:=MA.alloc qw (.cells #[.int .i64 a.at_,.string a.pred,.slice ad a.ag.length c] 219)) | (go_at_call_of 223 (Value.int IntKind.i64 8);refine(de _ _ _ _ _ fS _ uv _ (by decide) h8).mono ?_;rintro e w2 ⟨rfl,iz,dM⟩;have sO:=MA.step nS fS dM) | (go_at_call 224;refine(yq _ _ _ _ _ _ _ iz hB).mono ?_;rintro e w3 ⟨bd,d,l,rfl,hl,vk,tD,pT,jz⟩;have nP:=aq dM tD;have Lv:=MA.step sO iz tD;obtain⟨t3,r3,Xx,VF,US⟩:=eQ h fy nP;have QH:=af r3 0;have f13:=af r3 1;have f23:=af r3 2;have f33:=af r3 3;have Cc:=ab r3 0;have vr:=ab r3 1;have Vt:=ab r3 2;have Zs:=ab r3 3;have X8:=ab t3 0;have vh:=ab t3 1;have TZ:=ab t3 2;simp only[List.getElem?_toArray,List.getElem?_cons_zero,List.getElem?_cons_succ]at X8 vh TZ Cc vr Vt Zs))
 go_region_with (go_at_call 223;refine(de _ pb tv aa j2 (by exact vk) _ qy _ (by decide) h7).mono ?_;rintro e w4 ⟨rfl,C2,xT⟩;have ue:=aq (fJ nP) xT;have wh:=MR.step (w:=w3.drew) (r:=⟨(a,.slice ad a.ag.length c),.slice bd l.length d,l⟩) ⟨Lv,pT,jz⟩ (by exact vk) xT;obtain⟨t4,r4,M9,K6,Jr⟩:=eQ h fy ue;have Py:=af r4 0;have f14:=af r4 1;have f24:=af r4 2;have f34:=af r4 3;have zC:=ab r4 0;have tT:=ab r4 1;have JE:=ab r4 2;have Vu:=ab r4 3;have Vn:=ab t4 0;have Iw:=ab t4 1;have JA:=ab t4 2;simp only[List.getElem?_toArray,List.getElem?_cons_zero,List.getElem?_cons_succ]at Vn Iw JA zC tT JE Vu)
 all_goals (go_wp2_with fail)
 all_goals (obtain⟨hu,gu,pu⟩:=gG r4 (.int .i64 a.at_) (.string a.pred) (.slice ad a.ag.length c) (.slice bd l.length d) M9 C2 (Nat.le_refl _))
 all_goals (exact bodyPost_ret (v:=.tuple #[.agg #[.int .i64 a.at_,.string a.pred,.slice ad a.ag.length c,.slice bd l.length d],.bool true]) (by simp[results,Tryz.results179,go_sem,ab hu]) rfl ⟨_,_,_,_,l,rfl,pu,gu,MR.rD r4 _ _ _ _ wh,hl.out⟩)
theorem UK(w:World)(pb:Nat)(tv:Value)(aa:List Ax.Tok)(nx:Nat)(h:dd w pb tv aa nx)(j:Nat)(a:Ax.Atom)(hA:Hid (Ax.b9 aa nx=(some a,j)))(t1:Ax.Tok)(uv:Hid (aa[j]?=some t1))(h8:(t1.kind==8)=false)(h7:(t1.kind==7)=false):
 Calls Tryz.prog 179 #[.pointer (some ⟨pb,0,none⟩)] w fun e w'=>∃x y ad n c bd m d,e=.returned (.tuple #[.agg #[.int .i64 x,.string y,.slice ad n c,.slice bd m d],.bool false])∧dd w' pb tv aa j∧w.grownBy w' (some pb):=by
 have ye:=lt_of_heap h.1
 go_enter Tryz.func179,Tryz.ntmps179
 go_wp2_with (first | (go_at_call 222;refine(iR _ _ _ _ _ _ _ (h.alloc _) hA).mono ?_;rintro e w1 ⟨ad,c,rfl,Ck,fy,qw⟩;have fS:=Ck.alloc (.cells #[.int .i64 a.at_,.string a.pred,.slice ad a.ag.length c] 219);have nS:=MA.alloc qw (.cells #[.int .i64 a.at_,.string a.pred,.slice ad a.ag.length c] 219)) | (go_at_call_of 223 (Value.int IntKind.i64 8);refine(gf _ _ _ _ _ fS _ uv _ h8).mono ?_;rintro e w2 ⟨rfl,cM⟩;have iz:=fS.below cM;have dM:=aV cM (some pb);have sO:=MA.step nS fS dM;obtain⟨t2,r2,GF,XW,Yl⟩:=eQ h fy dM;have Sj:=af r2 0;have f12:=af r2 1;have f22:=af r2 2;have f32:=af r2 3;have C1:=ab r2 0;have xD:=ab r2 1;have Yx:=ab r2 2;have k32:=ab r2 3;have c02:=ab t2 0;have EV:=ab t2 1;have Yk:=ab t2 2;simp only[List.getElem?_toArray,List.getElem?_cons_zero,List.getElem?_cons_succ]at c02 EV Yk C1 xD Yx k32))
 go_region_with (go_at_call 223;refine(gf _ pb tv aa j (by exact iz) _ uv _ h7).mono ?_;rintro e w4 ⟨rfl,kW⟩;have C2:=dd.below (by exact iz) kW;have ue:=aq (fJ dM) (aV kW (some pb));obtain⟨t4,r4,M9,K6,Jr⟩:=eQ h fy ue;have Py:=af r4 0;have f14:=af r4 1;have f24:=af r4 2;have f34:=af r4 3;have zC:=ab r4 0;have tT:=ab r4 1;have JE:=ab r4 2;have Vu:=ab r4 3;have Vn:=ab t4 0;have Iw:=ab t4 1;have JA:=ab t4 2;simp only[List.getElem?_toArray,List.getElem?_cons_zero,List.getElem?_cons_succ]at Vn Iw JA zC tT JE Vu)
 all_goals (go_wp2_with fail)
 all_goals (obtain⟨hu,gu,pu⟩:=gG r4 (.int .i64 a.at_) (.string a.pred) (.slice ad a.ag.length c) (.slice none 0 0) M9 C2 (Nat.le_refl _))
 all_goals (exact bodyPost_ret (v:=.tuple #[.agg #[.int .i64 a.at_,.string a.pred,.slice ad a.ag.length c,.slice none 0 0],.bool false]) (by simp[results,Tryz.results179,go_sem,ab hu]) rfl ⟨_,_,_,_,_,_,_,_,rfl,pu,gu⟩)
theorem Ul(w:World)(pb:Nat)(tv:Value)(aa:List Ax.Tok)(nx:Nat)(h:dd w pb tv aa nx)(j:Nat)(a:Ax.Atom)(hA:Hid (Ax.b9 aa nx=(some a,j)))(t1:Ax.Tok)(uv:Hid (aa[j]?=some t1))(h8:(t1.kind==8)=false)(h7:(t1.kind==7)=true):
 Calls Tryz.prog 179 #[.pointer (some ⟨pb,0,none⟩)] w fun e w'=>∃ad c bd d l,e=.returned (.tuple #[.agg #[.int .i64 a.at_,.string a.pred,.slice ad a.ag.length c,.slice bd (List.length l) d],.bool true])∧dd w' pb tv aa (j+1)∧w.grownBy w' (some pb)∧MR.ok w' ⟨(a,.slice ad a.ag.length c),.slice bd (List.length l) d,l⟩∧l.map Prod.fst=[]:=by
 have ye:=lt_of_heap h.1
 go_enter Tryz.func179,Tryz.ntmps179
 go_wp2_with (first | (go_at_call 222;refine(iR _ _ _ _ _ _ _ (h.alloc _) hA).mono ?_;rintro e w1 ⟨ad,c,rfl,Ck,fy,qw⟩;have fS:=Ck.alloc (.cells #[.int .i64 a.at_,.string a.pred,.slice ad a.ag.length c] 219);have nS:=MA.alloc qw (.cells #[.int .i64 a.at_,.string a.pred,.slice ad a.ag.length c] 219)) | (go_at_call_of 223 (Value.int IntKind.i64 8);refine(gf _ _ _ _ _ fS _ uv _ h8).mono ?_;rintro e w2 ⟨rfl,cM⟩;have iz:=fS.below cM;have dM:=aV cM (some pb);have sO:=MA.step nS fS dM;obtain⟨t2,r2,GF,XW,Yl⟩:=eQ h fy dM;have Sj:=af r2 0;have f12:=af r2 1;have f22:=af r2 2;have f32:=af r2 3;have C1:=ab r2 0;have xD:=ab r2 1;have Yx:=ab r2 2;have k32:=ab r2 3;have c02:=ab t2 0;have EV:=ab t2 1;have Yk:=ab t2 2;simp only[List.getElem?_toArray,List.getElem?_cons_zero,List.getElem?_cons_succ]at c02 EV Yk C1 xD Yx k32))
 go_region_with (go_at_call 223;refine(de _ pb tv aa j (by exact iz) _ uv _ (by decide) h7).mono ?_;rintro e w4 ⟨rfl,C2,xT⟩;have ue:=aq (fJ dM) xT;have wh:=MR.step (w:=w2.drew) (r:=⟨(a,.slice ad a.ag.length c),.slice none 0 0,[]⟩) ⟨sO,World.ownsRow_nil _ _ _ _,Ix _⟩ (by exact iz) xT;obtain⟨t4,r4,M9,K6,Jr⟩:=eQ h fy ue;have Py:=af r4 0;have f14:=af r4 1;have f24:=af r4 2;have f34:=af r4 3;have zC:=ab r4 0;have tT:=ab r4 1;have JE:=ab r4 2;have Vu:=ab r4 3;have Vn:=ab t4 0;have Iw:=ab t4 1;have JA:=ab t4 2;simp only[List.getElem?_toArray,List.getElem?_cons_zero,List.getElem?_cons_succ]at Vn Iw JA zC tT JE Vu)
 all_goals (go_wp2_with fail)
 all_goals (obtain⟨hu,gu,pu⟩:=gG r4 (.int .i64 a.at_) (.string a.pred) (.slice ad a.ag.length c) (.slice none 0 0) M9 C2 (Nat.le_refl _))
 all_goals (exact bodyPost_ret (v:=.tuple #[.agg #[.int .i64 a.at_,.string a.pred,.slice ad a.ag.length c,.slice none 0 0],.bool true]) (by simp[results,Tryz.results179,go_sem,ab hu]) rfl ⟨_,_,none,0,[],rfl,pu,gu,MR.rD r4 _ _ _ _ wh,rfl⟩)
end
end Go.Proofs.YtdmicblafmhflaaGreatDoor

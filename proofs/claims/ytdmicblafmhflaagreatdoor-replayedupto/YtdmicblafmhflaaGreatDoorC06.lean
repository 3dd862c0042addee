/- The parser: atoms. -/
import Derived.Test.YtdmicblafmhflaaGreatDoorC05
import Derived.Test.YtdmicblafmhflaaGreatDoorC00
set_option linter.unusedSimpArgs false
set_option linter.unusedVariables false
set_option maxHeartbeats 2000000
namespace Go.Proofs.YtdmicblafmhflaaGreatDoor
section
open Go.RowKit
abbrev MA:=Ax.Atom×Value
def MA.ok(w:World)(x:MA):Prop:=w.ownsRow 0 310 2 x.2 x.1.ag.length (cl x.1.ag)
def bz(l:List MA):List Value:=l.flatMap fun x=>[.int .i64 x.1.at_,.string x.1.pred,x.2]
theorem oE(l:List MA)(x:MA):bz (l++[x])=bz l++[.int .i64 x.1.at_,.string x.1.pred,x.2]:=by simp[bz]
def tA(w:World)(l:List MA):Prop:=∀x,x∈l→x.ok w
theorem Tryz.Ep:(Tryz.prog.info? 219).map (fun i=>(i.zero,i.size,i.bytes))=some (some (.agg #[.int .i64 0,.string ByteArray.empty,.slice none 0 0]),3,48):=by kernel_rfl
theorem I0(w:World):tA w []:=fun _ h=>by cases h
theorem mz{w w':World}{l:List MA}(h:tA w l)(hb:Below w.heap.size w w'):tA w' l:=fun x hx=>ae (h x hx) hb
theorem EB{w w':World}{l:List MA}{row:Option Nat}{e':TypeId}(h:tA w l)(hg:w.grownBy w' row)(hr:∀k,row=some k→∃cur fz,w.heap[k]?=some (.cells cur e' fz))(cA:310≠e'):tA w' l:=
 fun x hx=>cV (h x hx) hg hr cA
theorem rq{w w':World}{l:List MA}{pb:Nat}{tv:Value}{aa:List Ax.Tok}{nx:Nat}(h:tA w l)(hp:dd w pb tv aa nx)(hg:w.grownBy w' (some pb)):tA w' l:=
 fun x hx=>cX (h x hx) hp hg (by decide)
theorem L8{w:World}{l:List MA}{x:MA}(h:tA w l)(hx:x.ok w):tA w (l++[x]):=by
 intro y hy
 rcases List.mem_append.1 hy with hy | hy
 · exact h y hy
 · simp at hy;subst hy;exact hx
theorem iS(w:World)(pb:Nat)(tv:Value)(aa:List Ax.Tok)(nx j:Nat)(a:Ax.Atom)(h:dd w pb tv aa nx)(hR:Hid (Ax.b9 aa nx=(some a,j))):
 Calls Tryz.prog 222 #[.pointer (some ⟨pb,0,none⟩)] w fun e w'=>∃ad c,e=.returned (.tuple #[.agg #[.int .i64 a.at_,.string a.pred,.slice ad a.ag.length c],.bool true])∧dd w' pb tv aa j∧w.grownBy w' (some pb)∧MA.ok w' (a,.slice ad a.ag.length c):=by
 refine(Ei w pb tv aa nx h).mono ?_
 rintro e w' ⟨hp,hg,hc⟩
 rw[hR.out]at hp hc
 rcases hc with⟨ad,c,a',rfl,hn,al⟩ | ⟨_,_,_,_,_,_,hn⟩
 · simp at hn;subst hn
   exact⟨ad,c,rfl,hp,hg,aG al (Nat.zero_le _)⟩
 · simp at hn
theorem Ae(w:World)(pb:Nat)(tv:Value)(aa:List Ax.Tok)(nx j:Nat)(h:dd w pb tv aa nx)(hR:Hid (Ax.b9 aa nx=(none,j))):
 Calls Tryz.prog 222 #[.pointer (some ⟨pb,0,none⟩)] w fun e w'=>∃x y ad n c,e=.returned (.tuple #[.agg #[.int .i64 x,.string y,.slice ad n c],.bool false])∧dd w' pb tv aa j∧w.grownBy w' (some pb):=by
 refine(Ei w pb tv aa nx h).mono ?_
 rintro e w' ⟨hp,hg,hc⟩
 rw[hR.out]at hp hc
 rcases hc with⟨ad,c,a',_,hn,_⟩ | ⟨x,y,ad,n,c,rfl,hn⟩
 · simp at hn
 · exact⟨x,y,ad,n,c,rfl,hp,hg⟩
theorem uu{w w1 w2:World}{pb:Nat}{tv v:Value}{aa:List Ax.Tok}{nx n:Nat}{xs:List Value}{o1 o2:Obj}{l:List MA}{x:MA}(bq:w1.ownsRow w.heap.size 219 3 v n xs)(fR:dd w1 pb tv aa nx)(hg:w.grownBy w1 (some pb))(dD:tA w1 l)(hx:x.ok w1)
 (bG:((w1.alloc o1).alloc o2).grownBy w2 v.ownBlock):dd w2 pb tv aa nx∧w.grownBy w2 (some pb)∧tA w2 (l++[x]):=
 ⟨((fR.alloc o1).alloc o2).row bG (bj ((bq.alloc o1).alloc o2)) (by decide) (by decide),
  oL (grownBy_alloc (grownBy_alloc hg _) _) bG (fun k hk=>(bq.lt k hk).1),
  EB (w:=(w1.alloc o1).alloc o2) (fun y hy=>World.ownsRow.alloc (World.ownsRow.alloc (L8 dD hx y hy) _) _) bG (bj ((bq.alloc o1).alloc o2)) (by decide)⟩
def Mw(w wr:World)(pb:Nat)(tv:Value)(aa:List Ax.Tok)(v:Value)(nx k:Nat)(acc:List MA)(R:Option (List Ax.Atom)×Nat):Prop:=
 dd wr pb tv aa nx∧wr.ownsRow w.heap.size 219 3 v acc.length (bz acc)∧tA wr acc∧w.grownBy wr (some pb)∧acc.length≤nx∧aa.length≤nx+k∧Ax.bW aa k nx (acc.map Prod.fst)=R
theorem zY(w:World)(pb:Nat)(tv:Value)(aa:List Ax.Tok)(nx:Nat)(h:dd w pb tv aa nx):
 Calls Tryz.prog 224 #[.pointer (some ⟨pb,0,none⟩)] w fun e w'=>dd w' pb tv aa (Ax.bW aa aa.length nx []).2∧w.grownBy w' (some pb)∧
  ((∃v l,e=.returned (.tuple #[v,.bool true])∧(Ax.bW aa aa.length nx []).1=some (l.map Prod.fst)∧w'.ownsRow w.heap.size 219 3 v l.length (bz l)∧tA w' l)∨
   (e=.returned (.tuple #[.slice none 0 0,.bool false])∧(Ax.bW aa aa.length nx []).1=none)):=by
 obtain⟨i0,hi,ew,dZ,dU⟩:=info_parts Tryz.Ep
 generalize hR:Ax.bW aa aa.length nx []=R
 have xW:=lt_of_heap h.1
 go_enter Tryz.func224,Tryz.ntmps224
 go_wp2_with fail
 go_loopg [4] aa.length (fun k v wr=>∃(i:Nat) (acc:List MA),Mw w wr pb tv aa v i k acc R)
 case atStart=>exact⟨nx,[],h,World.ownsRow_nil _ _ _ _,I0 _,gV _ _,Nat.zero_le _,by omega,hR⟩
 case round=>
  obtain⟨i,acc,hp,al,dD,hg,PD,hlen,hr⟩:=hrel
  have aE:=hp.2.2.1
  have hle:=hp.2.2.2.1
  have mv:=hp.2.2.2.2
  have cE:=hg.size
  cases gk with
  | zero=>omega
  | succ k=>
  have zT:Hid (Ax.bW aa (k+1) i (acc.map Prod.fst)=R):=hr
  clear hr hR
  rcases EY:Ax.b9 aa i with⟨_ | a,j⟩
  · have hA:Hid (Ax.b9 aa i=(none,j)):=EY
    clear EY
    go_wp2_with (go_at_call 222;refine(Ae _ _ _ _ _ _ hp hA).mono ?_;rintro e w1 ⟨x,y,ad,n,c,rfl,fR,fq⟩)
    go_ret2
    have e:=zT.out.symm.trans (Ax.jy hA.out)
    exact⟨by rw[e];exact fR.alloc _,grownBy_alloc (aq hg fq) _,.inr ⟨rfl,by rw[e]⟩⟩
  · have hA:Hid (Ax.b9 aa i=(some a,j)):=EY
    have Yt:=Ax.so EY
    have hj:=Ax.kJ mv aE EY
    clear EY
    obtain⟨t',LQ⟩:∃t,aa[j]?=some t:=⟨_,List.getElem?_eq_getElem hj⟩
    have nX:Hid (aa[j]?=some t'):=LQ
    clear LQ
    cases h6:(t'.kind==6)
    case true=>
     have l8:Hid (Ax.bW aa (k+1) i (acc.map Prod.fst)=Ax.bW aa k (j+1) (acc.map Prod.fst++[a])):=Ax.j6 hA.out (by rw[Ax.cP nX.out];simpa using h6)
     go_wp2_with (first | (go_at_call 222;refine(iS _ _ _ _ _ _ _ hp hA).mono ?_;rintro e w1 ⟨ad,c,rfl,fR,fq,qF⟩;have bq:=cX al hp fq (by decide);have kA:=fq.size;have nW:=rq dD hp fq) | (at_builtin;refine wpList_append_own _ rfl (.tmp 14) (.tmp 16) 220 rfl w.heap.size 219 i0 _ 3 48 Tryz.underlying220 hi ew dZ dU rfl (by decide) _ _ _ rfl ((bq.alloc _).alloc _) ⟨w1.heap.size+1,0,none⟩ 1 1 [.int .i64 a.at_,.string a.pred,.slice ad a.ag.length c] rfl rfl (eP _ _ _ _) (by simp[Value.oneCell']) (by unfold maxLen;omega) (by omega) (by simp;omega) ?_;intro v2 w2 aR bG _;obtain⟨iA,dM,tN⟩:=uu bq fR (aq hg fq) nW qF bG;clear bG bq fR nW qF) | (go_at_call 223;refine(dk _ _ _ _ _ iA _ nX _ (by decide) h6).mono ?_;rintro e w3 ⟨rfl,vx,nL⟩;have fE:=cX aR iA nL (by decide);have Jd:=rq tN iA nL))
     go_roundg k
     case measure=>omega
     case rel=>
      refine⟨j+1,acc++[(a,.slice ad a.ag.length c)],vx, ?_,Jd,aq dM nL,by simp;omega,by omega, ?_⟩
      · rw[oE];simpa using fE
      · rw[List.map_append];exact l8.out.symm.trans zT.out
    case false=>
     have l8:Hid (Ax.bW aa (k+1) i (acc.map Prod.fst)=(some (acc.map Prod.fst++[a]),j)):=Ax.gD hA.out (by rw[Ax.cP nX.out];simpa using h6)
     go_wp2_with (first | (go_at_call 222;refine(iS _ _ _ _ _ _ _ hp hA).mono ?_;rintro e w1 ⟨ad,c,rfl,fR,fq,qF⟩;have bq:=cX al hp fq (by decide);have kA:=fq.size;have nW:=rq dD hp fq) | (at_builtin;refine wpList_append_own _ rfl (.tmp 14) (.tmp 16) 220 rfl w.heap.size 219 i0 _ 3 48 Tryz.underlying220 hi ew dZ dU rfl (by decide) _ _ _ rfl ((bq.alloc _).alloc _) ⟨w1.heap.size+1,0,none⟩ 1 1 [.int .i64 a.at_,.string a.pred,.slice ad a.ag.length c] rfl rfl (eP _ _ _ _) (by simp[Value.oneCell']) (by unfold maxLen;omega) (by omega) (by simp;omega) ?_;intro v2 w2 aR bG _;obtain⟨iA,dM,tN⟩:=uu bq fR (aq hg fq) nW qF bG;clear bG bq fR nW qF) | (go_at_call 223;refine(gf _ _ _ _ _ iA _ nX _ h6).mono ?_;rintro e w3 ⟨rfl,eA⟩;have fE:=ae aR eA;have Jd:=mz tN eA))
     go_ret2
     have e:=zT.out.symm.trans l8.out
     refine⟨by rw[e];exact iA.below eA,aq dM (aW eA _),.inl ⟨_,acc++[(a,.slice ad a.ag.length c)],rfl,by rw[e];simp, ?_,Jd⟩⟩
     rw[oE];simpa using fE
end
/- The parser: rule. -/
section
open Go.RowKit
structure MR where
 head:MA
 bv:Value
 body:List MA
def MR.ok(w:World)(r:MR):Prop:=r.head.ok w∧w.ownsRow 0 219 3 r.bv r.body.length (bz r.body)∧tA w r.body
def MR.aw(r:MR):Ax.br:=⟨r.head.1,r.body.map Prod.fst⟩
theorem MA.alloc{w:World}{x:MA}(h:MA.ok w x)(o:Obj):MA.ok (w.alloc o) x:=World.ownsRow.alloc h o
theorem MA.step{w w':World}{x:MA}{pb:Nat}{tv:Value}{aa:List Ax.Tok}{nx:Nat}(h:MA.ok w x)(hp:dd w pb tv aa nx)(hg:w.grownBy w' (some pb)):MA.ok w' x:=cX h hp hg (by decide)
theorem MR.type{w w':World}{r:MR}{row:Option Nat}{e':TypeId}(h:MR.ok w r)(hg:w.grownBy w' row)(hr:∀k,row=some k→∃cur fz,w.heap[k]?=some (.cells cur e' fz))(h1:310≠e')(h2:219≠e'):MR.ok w' r:=
 ⟨cV h.1 hg hr h1,cV h.2.1 hg hr h2,EB h.2.2 hg hr h1⟩
theorem MR.step{w w':World}{r:MR}{pb:Nat}{tv:Value}{aa:List Ax.Tok}{nx:Nat}(h:MR.ok w r)(hp:dd w pb tv aa nx)(hg:w.grownBy w' (some pb)):MR.ok w' r:=
 ⟨MA.step h.1 hp hg,cX h.2.1 hp hg (by decide),rq h.2.2 hp hg⟩
theorem MR.below{w w':World}{r:MR}(h:MR.ok w r)(hb:Below w.heap.size w w'):MR.ok w' r:=⟨ae h.1 hb,ae h.2.1 hb,mz h.2.2 hb⟩
theorem Fx(w:World)(pb:Nat)(tv:Value)(aa:List Ax.Tok)(nx j:Nat)(h:dd w pb tv aa nx)(hR:Hid (Ax.bW aa aa.length nx []=(none,j))):
 Calls Tryz.prog 224 #[.pointer (some ⟨pb,0,none⟩)] w fun e w'=>e=.returned (.tuple #[.slice none 0 0,.bool false])∧dd w' pb tv aa j∧w.grownBy w' (some pb):=by
 refine(zY w pb tv aa nx h).mono ?_
 rintro e w' ⟨hp,hg,hc⟩
 rw[hR.out]at hp hc
 rcases hc with⟨v,ts,_,hn,_⟩ | ⟨rfl,_⟩
 · simp at hn
 · exact⟨rfl,hp,hg⟩
theorem wv(w:World)(pb:Nat)(tv:Value)(aa:List Ax.Tok)(nx j:Nat)(b:List Ax.Atom)(h:dd w pb tv aa nx)(hR:Hid (Ax.bW aa aa.length nx []=(some b,j))):
 Calls Tryz.prog 224 #[.pointer (some ⟨pb,0,none⟩)] w fun e w'=>∃bd d l,e=.returned (.tuple #[.slice bd (List.length l) d,.bool true])∧Hid (l.map Prod.fst=b)∧dd w' pb tv aa j∧w.grownBy w' (some pb)∧w'.ownsRow 0 219 3 (.slice bd l.length d) l.length (bz l)∧tA w' l:=by
 refine(zY w pb tv aa nx h).mono ?_
 rintro e w' ⟨hp,hg,hc⟩
 rw[hR.out]at hp hc
 rcases hc with⟨v,l,rfl,hn,al,dD⟩ | ⟨_,hn⟩
 · obtain⟨a,c,rfl⟩:=ah al
   simp only[Option.some.injEq]at hn
   exact⟨a,c,l,rfl,hn.symm,hp,hg,aG al (Nat.zero_le _),dD⟩
 · simp at hn
theorem eS{w w1 w2:World}{pb:Nat}{tv:Value}{aa:List Ax.Tok}{nx:Nat}{o1 o2:Obj}(h:dd w pb tv aa nx)(fq:(w.alloc o1).grownBy w1 (some pb))(dM:(w1.alloc o2).grownBy w2 (some pb)):
 w2.heap[w1.heap.size]?=some o2∧w2.heap[w.heap.size]?=some o1∧w.grownBy w2 (some pb)∧w.heap.size<w1.heap.size∧w1.heap.size<w2.heap.size:=by
 have hp:=lt_of_heap h.1
 have kA:=fq.size
 have Aq:=dM.size
 simp only[World.size_alloc]at kA Aq
 refine⟨?_, ?_, ?_,by omega,by omega⟩
 · rw[dM.block _ (by simp) (by simp;omega)]
   exact heap_alloc_new _ _
 · rw[dM.block _ (by simp;omega) (by simp;omega),Below.heap_alloc _ _ _ (by omega),fq.block _ (by simp) (by simp;omega)]
   exact heap_alloc_new _ _
 · exact aq (aq (aq (World.grownBy_alloc w o1 _) fq) (World.grownBy_alloc _ _ _)) dM
theorem rC{w2:World}{k:Nat}{a b c d:Value}{T:TypeId}(r2:w2.heap[k]?=some (.cells #[a,b,c,d] T (0,0)))(x y z u:Value):
 ∃w3 w4 w5,w3=w2.setCell ⟨k,0,none⟩ x∧w4=w3.setCell ⟨k,1,none⟩ y∧w5=w4.setCell ⟨k,2,none⟩ z∧
  (∀w' row,(w'=w3∨w'=w4∨w'=w5∨w'=w2)→row=some k→∃cur fz,w'.heap[k]?=some (.cells cur T fz))∧
  ((((w2.setCell ⟨k,0,none⟩ x).setCell ⟨k,1,none⟩ y).setCell ⟨k,2,none⟩ z).setCell ⟨k,3,none⟩ u).heap[k]?=some (.cells #[x,y,z,u] T (0,0)):=by
 have h0:=heap_setCell_same (off:=0) r2 x
 have h1:=heap_setCell_same (off:=1) h0 y
 have h2:=heap_setCell_same (off:=2) h1 z
 have h3:=heap_setCell_same (off:=3) h2 u
 refine⟨_,_,_,rfl,rfl,rfl, ?_,by rw[h3];rfl⟩
 rintro w' row (rfl | rfl | rfl | rfl) _
 · exact⟨_,_,h0⟩
 · exact⟨_,_,h1⟩
 · exact⟨_,_,h2⟩
 · exact⟨_,_,r2⟩
theorem gG{w w2:World}{pb:Nat}{tv:Value}{aa:List Ax.Tok}{nx k:Nat}{a b c d:Value}(r2:w2.heap[k]?=some (.cells #[a,b,c,d] 222 (0,0)))(x y z u:Value)(gw:w.grownBy w2 (some pb))(hp:dd w2 pb tv aa nx)(hk:w.heap.size≤k):
 ((((w2.setCell ⟨k,0,none⟩ x).setCell ⟨k,1,none⟩ y).setCell ⟨k,2,none⟩ z).setCell ⟨k,3,none⟩ u).heap[k]?=some (.cells #[x,y,z,u] 222 (0,0))∧w.grownBy ((((w2.setCell ⟨k,0,none⟩ x).setCell ⟨k,1,none⟩ y).setCell ⟨k,2,none⟩ z).setCell ⟨k,3,none⟩ u) (some pb)∧dd ((((w2.setCell ⟨k,0,none⟩ x).setCell ⟨k,1,none⟩ y).setCell ⟨k,2,none⟩ z).setCell ⟨k,3,none⟩ u) pb tv aa nx:=by
 obtain⟨_,_,_,rfl,rfl,rfl,lX,dY⟩:=rC r2 x y z u
 refine⟨dY,cY (cY (cY (cY gw hk x) hk y) hk z) hk u, ?_⟩
 refine(((hp.row (grownBy_setCell _ _) (e':=222) (fun j hj=> ?_) (by decide) (by decide)).row (grownBy_setCell _ _) (e':=222) (fun j hj=> ?_) (by decide) (by decide)).row (grownBy_setCell _ _) (e':=222) (fun j hj=> ?_) (by decide) (by decide)).row (grownBy_setCell _ _) (e':=222) (fun j hj=> ?_) (by decide) (by decide)
 all_goals (cases hj)
 · exact lX _ _ (.inr (.inr (.inr rfl))) rfl
 · exact lX _ _ (.inl rfl) rfl
 · exact lX _ _ (.inr (.inl rfl)) rfl
 · exact lX _ _ (.inr (.inr (.inl rfl))) rfl
theorem MR.rC{w2:World}{k:Nat}{a b c d:Value}(r2:w2.heap[k]?=some (.cells #[a,b,c,d] 222 (0,0)))(x y z u:Value){r:MR}(h:MR.ok w2 r):
 MR.ok ((((w2.setCell ⟨k,0,none⟩ x).setCell ⟨k,1,none⟩ y).setCell ⟨k,2,none⟩ z).setCell ⟨k,3,none⟩ u) r:=by
 obtain⟨_,_,_,rfl,rfl,rfl,lX,dY⟩:=Go.Proofs.YtdmicblafmhflaaGreatDoor.rC r2 x y z u
 refine MR.type (MR.type (MR.type (MR.type h (grownBy_setCell _ _) (e':=222) (fun j hj=> ?_) (by decide) (by decide)) (grownBy_setCell _ _) (e':=222) (fun j hj=> ?_) (by decide) (by decide)) (grownBy_setCell _ _) (e':=222) (fun j hj=> ?_) (by decide) (by decide)) (grownBy_setCell _ _) (e':=222) (fun j hj=> ?_) (by decide) (by decide)
 all_goals (cases hj)
 · exact lX _ _ (.inr (.inr (.inr rfl))) rfl
 · exact lX _ _ (.inl rfl) rfl
 · exact lX _ _ (.inr (.inl rfl)) rfl
 · exact lX _ _ (.inr (.inr (.inl rfl))) rfl
theorem Dj{w w1:World}{pb:Nat}{tv:Value}{aa:List Ax.Tok}{nx:Nat}{o1:Obj}(h:dd w pb tv aa nx)(fq:(w.alloc o1).grownBy w1 (some pb)):
 w1.heap[w.heap.size]?=some o1∧w.grownBy w1 (some pb)∧w.heap.size<w1.heap.size:=by
 have hp:=lt_of_heap h.1
 have kA:=fq.size
 simp only[World.size_alloc]at kA
 refine⟨?_,aq (World.grownBy_alloc w o1 _) fq,by omega⟩
 rw[fq.block _ (by simp) (by simp;omega)]
 exact heap_alloc_new _ _
theorem UN(w:World)(pb:Nat)(tv:Value)(aa:List Ax.Tok)(nx:Nat)(h:dd w pb tv aa nx)(j:Nat)(hA:Hid (Ax.b9 aa nx=(none,j))):
 Calls Tryz.prog 179 #[.pointer (some ⟨pb,0,none⟩)] w fun e w'=>∃x y ad n c bd m d,e=.returned (.tuple #[.agg #[.int .i64 x,.string y,.slice ad n c,.slice bd m d],.bool false])∧dd w' pb tv aa j∧w.grownBy w' (some pb):=by
 have xW:=lt_of_heap h.1
 go_enter Tryz.func179,Tryz.ntmps179
 go_wp2_with (go_at_call 222;refine(Ae _ _ _ _ _ _ (h.alloc _) hA).mono ?_;rintro e w1 ⟨x,y,ad,n,c,rfl,fR,fq⟩;obtain⟨r1,Ku,Qi⟩:=Dj h fq;have f0:=af r1 0;have f1:=af r1 1;have f2:=af r1 2;have f3:=af r1 3;have k0:=ab r1 0;have k1:=ab r1 1;have k2:=ab r1 2;have k3:=ab r1 3;simp only[List.getElem?_toArray,List.getElem?_cons_zero,List.getElem?_cons_succ]at k0 k1 k2 k3)
 obtain⟨hu,gu,pu⟩:=gG r1 (.int .i64 0) (.string ⟨#[]⟩) (.slice none 0 0) (.slice none 0 0) Ku fR (Nat.le_refl _)
 have hu':=(Below.heap_alloc _ (.cells #[.int .i64 x,.string y,.slice ad n c] 219) _ (lt_of_heap hu)).trans hu
 exact bodyPost_ret (v:=.tuple #[.agg #[.int .i64 0,.string ⟨#[]⟩,.slice none 0 0,.slice none 0 0],.bool false]) (by simp[results,Tryz.results179,go_sem,ab hu']) rfl ⟨_,_,_,_,_,_,_,_,rfl,pu.alloc _,grownBy_alloc gu _⟩
theorem Vl(w:World)(pb:Nat)(tv:Value)(aa:List Ax.Tok)(nx:Nat)(h:dd w pb tv aa nx)(j:Nat)(a:Ax.Atom)(hA:Hid (Ax.b9 aa nx=(some a,j)))(t1:Ax.Tok)(uk:Hid (aa[j]?=some t1))(h8:(t1.kind==8)=true)(j2:Nat)(hB:Hid (Ax.bW aa aa.length (j+1) []=(none,j2))):
 Calls Tryz.prog 179 #[.pointer (some ⟨pb,0,none⟩)] w fun e w'=>∃x y ad n c bd m d,e=.returned (.tuple #[.agg #[.int .i64 x,.string y,.slice ad n c,.slice bd m d],.bool false])∧dd w' pb tv aa j2∧w.grownBy w' (some pb):=by
 have xW:=lt_of_heap h.1
 go_enter Tryz.func179,Tryz.ntmps179
 go_wp2_with (first | (go_at_call 222;refine(iS _ _ _ _ _ _ _ (h.alloc _) hA).mono ?_;rintro e w1 ⟨ad,c,rfl,BK,fq,qF⟩;have fR:=BK.alloc (.cells #[.int .i64 a.at_,.string a.pred,.slice ad a.ag.length c] 219);have nW:=MA.alloc qF (.cells #[.int .i64 a.at_,.string a.pred,.slice ad a.ag.length c] 219)) | (go_at_call_of 223 (Value.int IntKind.i64 8);refine(dk _ _ _ _ _ fR _ uk _ (by decide) h8).mono ?_;rintro e w2 ⟨rfl,iA,dM⟩;have tN:=MA.step nW fR dM) | (go_at_call 224;refine(Fx _ _ _ _ _ _ iA hB).mono ?_;rintro e w3 ⟨rfl,vx,sZ⟩;have nL:=aq dM sZ;obtain⟨t3,r3,XU,VA,Ty⟩:=eS h fq nL;have RV:=af r3 0;have f13:=af r3 1;have f23:=af r3 2;have f33:=af r3 3;have Bn:=ab r3 0;have u5:=ab r3 1;have UJ:=ab r3 2;have Zs:=ab r3 3;have WQ:=ab t3 0;have vD:=ab t3 1;have Uy:=ab t3 2;simp only[List.getElem?_toArray,List.getElem?_cons_zero,List.getElem?_cons_succ]at WQ vD Uy Bn u5 UJ Zs))
 obtain⟨hu,gu,pu⟩:=gG r3 (.int .i64 0) (.string ⟨#[]⟩) (.slice none 0 0) (.slice none 0 0) XU vx (Nat.le_refl _)
 exact bodyPost_ret (v:=.tuple #[.agg #[.int .i64 0,.string ⟨#[]⟩,.slice none 0 0,.slice none 0 0],.bool false]) (by simp[results,Tryz.results179,go_sem,ab hu]) rfl ⟨_,_,_,_,_,_,_,_,rfl,pu,gu⟩
end
/- The parser: rule, its last region. -/
section
open Go.RowKit
theorem Vy(w:World)(pb:Nat)(tv:Value)(aa:List Ax.Tok)(nx:Nat)(h:dd w pb tv aa nx)(j:Nat)(a:Ax.Atom)(hA:Hid (Ax.b9 aa nx=(some a,j)))(t1:Ax.Tok)(uk:Hid (aa[j]?=some t1))(h8:(t1.kind==8)=true)(j2:Nat)(b:List Ax.Atom)(hB:Hid (Ax.bW aa aa.length (j+1) []=(some b,j2)))(t2:Ax.Tok)(qn:Hid (aa[j2]?=some t2))(h7:(t2.kind==7)=false):
 Calls Tryz.prog 179 #[.pointer (some ⟨pb,0,none⟩)] w fun e w'=>∃x y ad n c bd m d,e=.returned (.tuple #[.agg #[.int .i64 x,.string y,.slice ad n c,.slice bd m d],.bool false])∧dd w' pb tv aa j2∧w.grownBy w' (some pb):=by
 have xW:=lt_of_heap h.1
 go_enter Tryz.func179,Tryz.ntmps179
 go_wp2_with (first | (go_at_call 222;refine(iS _ _ _ _ _ _ _ (h.alloc _) hA).mono ?_;rintro e w1 ⟨ad,c,rfl,BK,fq,qF⟩;have fR:=BK.alloc (.cells #[.int .i64 a.at_,.string a.pred,.slice ad a.ag.length c] 219);have nW:=MA.alloc qF (.cells #[.int .i64 a.at_,.string a.pred,.slice ad a.ag.length c] 219)) | (go_at_call_of 223 (Value.int IntKind.i64 8);refine(dk _ _ _ _ _ fR _ uk _ (by decide) h8).mono ?_;rintro e w2 ⟨rfl,iA,dM⟩;have tN:=MA.step nW fR dM) | (go_at_call 224;refine(wv _ _ _ _ _ _ _ iA hB).mono ?_;rintro e w3 ⟨bd,d,l,rfl,hl,vx,sZ,pS,ju⟩;have nL:=aq dM sZ;have Jd:=MA.step tN iA sZ;obtain⟨t3,r3,XU,VA,Ty⟩:=eS h fq nL;have RV:=af r3 0;have f13:=af r3 1;have f23:=af r3 2;have f33:=af r3 3;have Bn:=ab r3 0;have u5:=ab r3 1;have UJ:=ab r3 2;have Zs:=ab r3 3;have WQ:=ab t3 0;have vD:=ab t3 1;have Uy:=ab t3 2;simp only[List.getElem?_toArray,List.getElem?_cons_zero,List.getElem?_cons_succ]at WQ vD Uy Bn u5 UJ Zs))
 go_region_with (go_at_call 223;refine(gf _ pb tv aa j2 (by exact vx) _ qn _ h7).mono ?_;rintro e w4 ⟨rfl,kY⟩;have Ds:=dd.below (by exact vx) kY;have uh:=aq (fL nL) (aW kY (some pb));obtain⟨t4,r4,L3,Jj,KS⟩:=eS h fq uh;have PJ:=af r4 0;have f14:=af r4 1;have f24:=af r4 2;have f34:=af r4 3;have yM:=ab r4 0;have s9:=ab r4 1;have Lp:=ab r4 2;have Vm:=ab r4 3;have Vt:=ab t4 0;have Ip:=ab t4 1;have KA:=ab t4 2;simp only[List.getElem?_toArray,List.getElem?_cons_zero,List.getElem?_cons_succ]at Vt Ip KA yM s9 Lp Vm)
 all_goals (go_wp2_with fail)
 all_goals (obtain⟨hu,gu,pu⟩:=gG r4 (.int .i64 a.at_) (.string a.pred) (.slice ad a.ag.length c) (.slice bd l.length d) L3 Ds (Nat.le_refl _))
 all_goals (exact bodyPost_ret (v:=.tuple #[.agg #[.int .i64 a.at_,.string a.pred,.slice ad a.ag.length c,.slice bd l.length d],.bool false]) (by simp[results,Tryz.results179,go_sem,ab hu]) rfl ⟨_,_,_,_,_,_,_,_,rfl,pu,gu⟩)
theorem VJ(w:World)(pb:Nat)(tv:Value)(aa:List Ax.Tok)(nx:Nat)(h:dd w pb tv aa nx)(j:Nat)(a:Ax.Atom)(hA:Hid (Ax.b9 aa nx=(some a,j)))(t1:Ax.Tok)(uk:Hid (aa[j]?=some t1))(h8:(t1.kind==8)=true)(j2:Nat)(b:List Ax.Atom)(hB:Hid (Ax.bW aa aa.length (j+1) []=(some b,j2)))(t2:Ax.Tok)(qn:Hid (aa[j2]?=some t2))(h7:(t2.kind==7)=true):
 Calls Tryz.prog 179 #[.pointer (some ⟨pb,0,none⟩)] w fun e w'=>∃ad c bd d l,e=.returned (.tuple #[.agg #[.int .i64 a.at_,.string a.pred,.slice ad a.ag.length c,.slice bd (List.length l) d],.bool true])∧dd w' pb tv aa (j2+1)∧w.grownBy w' (some pb)∧MR.ok w' ⟨(a,.slice ad a.ag.length c),.slice bd (List.length l) d,l⟩∧l.map Prod.fst=b:=by
 have xW:=lt_of_heap h.1
 go_enter Tryz.func179,Tryz.ntmps179
 go_wp2_with (first | (go_at_call 222;refine(iS _ _ _ _ _ _ _ (h.alloc _) hA).mono ?_;rintro e w1 ⟨ad,c,rfl,BK,fq,qF⟩;have fR:=BK.alloc (.cells #[.int .i64 a.at_,.string a.pred,.slice ad a.ag.length c] 219);have nW:=MA.alloc qF (.cells #[.int .i64 a.at_,.string a.pred,.slice ad a.ag.length c] 219)) | (go_at_call_of 223 (Value.int IntKind.i64 8);refine(dk _ _ _ _ _ fR _ uk _ (by decide) h8).mono ?_;rintro e w2 ⟨rfl,iA,dM⟩;have tN:=MA.step nW fR dM) | (go_at_call 224;refine(wv _ _ _ _ _ _ _ iA hB).mono ?_;rintro e w3 ⟨bd,d,l,rfl,hl,vx,sZ,pS,ju⟩;have nL:=aq dM sZ;have Jd:=MA.step tN iA sZ;obtain⟨t3,r3,XU,VA,Ty⟩:=eS h fq nL;have RV:=af r3 0;have f13:=af r3 1;have f23:=af r3 2;have f33:=af r3 3;have Bn:=ab r3 0;have u5:=ab r3 1;have UJ:=ab r3 2;have Zs:=ab r3 3;have WQ:=ab t3 0;have vD:=ab t3 1;have Uy:=ab t3 2;simp only[List.getElem?_toArray,List.getElem?_cons_zero,List.getElem?_cons_succ]at WQ vD Uy Bn u5 UJ Zs))
 go_region_with (go_at_call 223;refine(dk _ pb tv aa j2 (by exact vx) _ qn _ (by decide) h7).mono ?_;rintro e w4 ⟨rfl,Ds,xF⟩;have uh:=aq (fL nL) xF;have yi:=MR.step (w:=w3.drew) (r:=⟨(a,.slice ad a.ag.length c),.slice bd l.length d,l⟩) ⟨Jd,pS,ju⟩ (by exact vx) xF;obtain⟨t4,r4,L3,Jj,KS⟩:=eS h fq uh;have PJ:=af r4 0;have f14:=af r4 1;have f24:=af r4 2;have f34:=af r4 3;have yM:=ab r4 0;have s9:=ab r4 1;have Lp:=ab r4 2;have Vm:=ab r4 3;have Vt:=ab t4 0;have Ip:=ab t4 1;have KA:=ab t4 2;simp only[List.getElem?_toArray,List.getElem?_cons_zero,List.getElem?_cons_succ]at Vt Ip KA yM s9 Lp Vm)
 all_goals (go_wp2_with fail)
 all_goals (obtain⟨hu,gu,pu⟩:=gG r4 (.int .i64 a.at_) (.string a.pred) (.slice ad a.ag.length c) (.slice bd l.length d) L3 Ds (Nat.le_refl _))
 all_goals (exact bodyPost_ret (v:=.tuple #[.agg #[.int .i64 a.at_,.string a.pred,.slice ad a.ag.length c,.slice bd l.length d],.bool true]) (by simp[results,Tryz.results179,go_sem,ab hu]) rfl ⟨_,_,_,_,l,rfl,pu,gu,MR.rC r4 _ _ _ _ yi,hl.out⟩)
theorem Vf(w:World)(pb:Nat)(tv:Value)(aa:List Ax.Tok)(nx:Nat)(h:dd w pb tv aa nx)(j:Nat)(a:Ax.Atom)(hA:Hid (Ax.b9 aa nx=(some a,j)))(t1:Ax.Tok)(uk:Hid (aa[j]?=some t1))(h8:(t1.kind==8)=false)(h7:(t1.kind==7)=false):
 Calls Tryz.prog 179 #[.pointer (some ⟨pb,0,none⟩)] w fun e w'=>∃x y ad n c bd m d,e=.returned (.tuple #[.agg #[.int .i64 x,.string y,.slice ad n c,.slice bd m d],.bool false])∧dd w' pb tv aa j∧w.grownBy w' (some pb):=by
 have xW:=lt_of_heap h.1
 go_enter Tryz.func179,Tryz.ntmps179
 go_wp2_with (first | (go_at_call 222;refine(iS _ _ _ _ _ _ _ (h.alloc _) hA).mono ?_;rintro e w1 ⟨ad,c,rfl,BK,fq,qF⟩;have fR:=BK.alloc (.cells #[.int .i64 a.at_,.string a.pred,.slice ad a.ag.length c] 219);have nW:=MA.alloc qF (.cells #[.int .i64 a.at_,.string a.pred,.slice ad a.ag.length c] 219)) | (go_at_call_of 223 (Value.int IntKind.i64 8);refine(gf _ _ _ _ _ fR _ uk _ h8).mono ?_;rintro e w2 ⟨rfl,cM⟩;have iA:=fR.below cM;have dM:=aW cM (some pb);have tN:=MA.step nW fR dM;obtain⟨t2,r2,FK,Yp,XV⟩:=eS h fq dM;have Td:=af r2 0;have f12:=af r2 1;have f22:=af r2 2;have f32:=af r2 3;have D1:=ab r2 0;have wL:=ab r2 1;have Xq:=ab r2 2;have k32:=ab r2 3;have c02:=ab t2 0;have EW:=ab t2 1;have Xk:=ab t2 2;simp only[List.getElem?_toArray,List.getElem?_cons_zero,List.getElem?_cons_succ]at c02 EW Xk D1 wL Xq k32))
 go_region_with (go_at_call 223;refine(gf _ pb tv aa j (by exact iA) _ uk _ h7).mono ?_;rintro e w4 ⟨rfl,kY⟩;have Ds:=dd.below (by exact iA) kY;have uh:=aq (fL dM) (aW kY (some pb));obtain⟨t4,r4,L3,Jj,KS⟩:=eS h fq uh;have PJ:=af r4 0;have f14:=af r4 1;have f24:=af r4 2;have f34:=af r4 3;have yM:=ab r4 0;have s9:=ab r4 1;have Lp:=ab r4 2;have Vm:=ab r4 3;have Vt:=ab t4 0;have Ip:=ab t4 1;have KA:=ab t4 2;simp only[List.getElem?_toArray,List.getElem?_cons_zero,List.getElem?_cons_succ]at Vt Ip KA yM s9 Lp Vm)
 all_goals (go_wp2_with fail)
 all_goals (obtain⟨hu,gu,pu⟩:=gG r4 (.int .i64 a.at_) (.string a.pred) (.slice ad a.ag.length c) (.slice none 0 0) L3 Ds (Nat.le_refl _))
 all_goals (exact bodyPost_ret (v:=.tuple #[.agg #[.int .i64 a.at_,.string a.pred,.slice ad a.ag.length c,.slice none 0 0],.bool false]) (by simp[results,Tryz.results179,go_sem,ab hu]) rfl ⟨_,_,_,_,_,_,_,_,rfl,pu,gu⟩)
theorem UY(w:World)(pb:Nat)(tv:Value)(aa:List Ax.Tok)(nx:Nat)(h:dd w pb tv aa nx)(j:Nat)(a:Ax.Atom)(hA:Hid (Ax.b9 aa nx=(some a,j)))(t1:Ax.Tok)(uk:Hid (aa[j]?=some t1))(h8:(t1.kind==8)=false)(h7:(t1.kind==7)=true):
 Calls Tryz.prog 179 #[.pointer (some ⟨pb,0,none⟩)] w fun e w'=>∃ad c bd d l,e=.returned (.tuple #[.agg #[.int .i64 a.at_,.string a.pred,.slice ad a.ag.length c,.slice bd (List.length l) d],.bool true])∧dd w' pb tv aa (j+1)∧w.grownBy w' (some pb)∧MR.ok w' ⟨(a,.slice ad a.ag.length c),.slice bd (List.length l) d,l⟩∧l.map Prod.fst=[]:=by
 have xW:=lt_of_heap h.1
 go_enter Tryz.func179,Tryz.ntmps179
 go_wp2_with (first | (go_at_call 222;refine(iS _ _ _ _ _ _ _ (h.alloc _) hA).mono ?_;rintro e w1 ⟨ad,c,rfl,BK,fq,qF⟩;have fR:=BK.alloc (.cells #[.int .i64 a.at_,.string a.pred,.slice ad a.ag.length c] 219);have nW:=MA.alloc qF (.cells #[.int .i64 a.at_,.string a.pred,.slice ad a.ag.length c] 219)) | (go_at_call_of 223 (Value.int IntKind.i64 8);refine(gf _ _ _ _ _ fR _ uk _ h8).mono ?_;rintro e w2 ⟨rfl,cM⟩;have iA:=fR.below cM;have dM:=aW cM (some pb);have tN:=MA.step nW fR dM;obtain⟨t2,r2,FK,Yp,XV⟩:=eS h fq dM;have Td:=af r2 0;have f12:=af r2 1;have f22:=af r2 2;have f32:=af r2 3;have D1:=ab r2 0;have wL:=ab r2 1;have Xq:=ab r2 2;have k32:=ab r2 3;have c02:=ab t2 0;have EW:=ab t2 1;have Xk:=ab t2 2;simp only[List.getElem?_toArray,List.getElem?_cons_zero,List.getElem?_cons_succ]at c02 EW Xk D1 wL Xq k32))
 go_region_with (go_at_call 223;refine(dk _ pb tv aa j (by exact iA) _ uk _ (by decide) h7).mono ?_;rintro e w4 ⟨rfl,Ds,xF⟩;have uh:=aq (fL dM) xF;have yi:=MR.step (w:=w2.drew) (r:=⟨(a,.slice ad a.ag.length c),.slice none 0 0,[]⟩) ⟨tN,World.ownsRow_nil _ _ _ _,I0 _⟩ (by exact iA) xF;obtain⟨t4,r4,L3,Jj,KS⟩:=eS h fq uh;have PJ:=af r4 0;have f14:=af r4 1;have f24:=af r4 2;have f34:=af r4 3;have yM:=ab r4 0;have s9:=ab r4 1;have Lp:=ab r4 2;have Vm:=ab r4 3;have Vt:=ab t4 0;have Ip:=ab t4 1;have KA:=ab t4 2;simp only[List.getElem?_toArray,List.getElem?_cons_zero,List.getElem?_cons_succ]at Vt Ip KA yM s9 Lp Vm)
 all_goals (go_wp2_with fail)
 all_goals (obtain⟨hu,gu,pu⟩:=gG r4 (.int .i64 a.at_) (.string a.pred) (.slice ad a.ag.length c) (.slice none 0 0) L3 Ds (Nat.le_refl _))
 all_goals (exact bodyPost_ret (v:=.tuple #[.agg #[.int .i64 a.at_,.string a.pred,.slice ad a.ag.length c,.slice none 0 0],.bool true]) (by simp[results,Tryz.results179,go_sem,ab hu]) rfl ⟨_,_,none,0,[],rfl,pu,gu,MR.rC r4 _ _ _ _ yi,rfl⟩)
end
end Go.Proofs.YtdmicblafmhflaaGreatDoor

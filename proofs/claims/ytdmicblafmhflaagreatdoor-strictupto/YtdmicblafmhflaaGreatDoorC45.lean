/- state.readGiven of any bytes, walked. -/
import Derived.Test.YtdmicblafmhflaaGreatDoorC44
set_option linter.unusedSimpArgs false
set_option linter.unusedVariables false
set_option maxHeartbeats 4000000
set_option maxRecDepth 100000
namespace Go.Proofs.YtdmicblafmhflaaGreatDoor
section
open Go.RowKit Go.Maps
structure ki(wS wA W:World)(rb gm pb pp:Nat)(pn:ByteArray)(l:List UInt8)(f:Bool)(N:List GT)(b:Option Nat):Prop where
 rd:cJ W rb l f
 be:Below wS.heap.size wS W
 TH:jY W gm N
 tk:lj xI wA W
 Le:W.heap[pb]?=some (.cells #[.string pn,.int .i64 (pp:Nat)] 112 (0,0))
 da:∀x,b=some x→W.heap[x]?=some (.cells #[.string ⟨#[]⟩,.string ⟨#[]⟩,.string ⟨#[]⟩] 119 (0,0))∧wS.heap.size≤x∧¬x∈ev gm N
theorem ki.pc{wS wA W:World}{rb gm pb pp:Nat}{pn:ByteArray}{l:List UInt8}{f:Bool}{N:List GT}{b:Option Nat}(h:ki wS wA W rb gm pb pp pn l f N b):W.cell? ⟨pb,1,none⟩=some (.int .i64 (pp:Nat)):=by rw[cell_of_row _ _ _ _ _ _ h.Le];rfl
theorem ki.below{wS wA W w':World}{rb gm pb pp:Nat}{pn:ByteArray}{l:List UInt8}{f:Bool}{N:List GT}{b:Option Nat}(h:ki wS wA W rb gm pb pp pn l f N b)(hb:Below W.heap.size W w'):ki wS wA w' rb gm pb pp pn l f N b:=by
 refine⟨?_,h.be.trans (hb.mono h.be.size),h.TH.below hb,h.tk.trans (lj.bG hb _),by rw[hb.block _ (lt_of_heap h.Le)];exact h.Le,fun x hx=> ?_⟩
 · have:=h.rd
   unfold cJ at this ⊢
   rw[hb.block _ (lt_of_heap this)]
   exact this
 · obtain⟨h1,h2,h3⟩:=h.da x hx
   exact⟨by rw[hb.block _ (lt_of_heap h1)];exact h1,h2,h3⟩
theorem ki.drew{wS wA W:World}{rb gm pb pp:Nat}{pn:ByteArray}{l:List UInt8}{f:Bool}{N:List GT}{b:Option Nat}(h:ki wS wA W rb gm pb pp pn l f N b):ki wS wA W.drew rb gm pb pp pn l f N b:=h.below (Below.refl _ _).drew
theorem ki.read{wS wA W w':World}{rb gm pb pp:Nat}{pn:ByteArray}{l l':List UInt8}{f f':Bool}{N:List GT}{b:Option Nat}(h:ki wS wA W rb gm pb pp pn l f N b)(BO:wS.heap.size≤rb)(hk:Kb [rb] W w')(hr:cJ w' rb l' f'):ki wS wA w' rb gm pb pp pn l' f' N b:=by
 have og:=h.rd
 unfold cJ at og
 refine⟨hr,hk.aK h.be h.be.size (by simpa using BO),h.TH.kept hk (h.TH.kG og (by decide) (by decide)),h.tk.trans (lj.sB hk og (by simp)),hk.heap h.Le (by simpa using lN h.Le og (by decide)),fun x hx=> ?_⟩
 obtain⟨h1,h2,h3⟩:=h.da x hx
 exact⟨hk.heap h1 (by simpa using lN h1 og (by decide)),h2,h3⟩
theorem ki.alloc{wS wA W:World}{rb gm pb pp:Nat}{pn:ByteArray}{l:List UInt8}{f:Bool}{N:List GT}(h:ki wS wA W rb gm pb pp pn l f N none):ki wS wA (W.alloc (.cells #[.string ⟨#[]⟩,.string ⟨#[]⟩,.string ⟨#[]⟩] 119)) rb gm pb pp pn l f N (some W.heap.size):=by
 have h2:=h.below (w':=W.alloc (.cells #[.string ⟨#[]⟩,.string ⟨#[]⟩,.string ⟨#[]⟩] 119)) ((Below.refl _ _).alloc (Nat.le_refl _) _)
 refine⟨h2.rd,h2.be,h2.TH,h2.tk,h2.Le,fun x hx=> ?_⟩
 simp only[Option.some.injEq]at hx
 subst hx
 refine⟨heap_alloc_new _ _,h.be.size,fun hm=> ?_⟩
 have h3:=h.TH.lt hm
 omega
theorem ki.cells{wS wA W:World}{rb gm pb pp:Nat}{pn:ByteArray}{l:List UInt8}{f:Bool}{N:List GT}{x:Nat}(h:ki wS wA W rb gm pb pp pn l f N (some x)):W.cell? ⟨x,0,none⟩=some (.string ⟨#[]⟩)∧W.cell? ⟨x,1,none⟩=some (.string ⟨#[]⟩)∧W.cell? ⟨x,2,none⟩=some (.string ⟨#[]⟩)∧W.frozen? ⟨x,0,none⟩=false∧W.frozen? ⟨x,1,none⟩=false∧W.frozen? ⟨x,2,none⟩=false∧x<W.heap.size:=by
 obtain⟨h2,_,_⟩:=h.da x rfl
 exact⟨by rw[cell_of_row _ _ _ _ _ _ h2];rfl,by rw[cell_of_row _ _ _ _ _ _ h2];rfl,by rw[cell_of_row _ _ _ _ _ _ h2];rfl,by simp[World.frozen?,h2],by simp[World.frozen?,h2],by simp[World.frozen?,h2],lt_of_heap h2⟩
structure PS(wS wA W:World)(rb gm pb pp:Nat)(pn:ByteArray)(l:List UInt8)(f:Bool)(N:List GT)(D:List ByteArray)(g:Nat)(b:Option Nat):Prop where
 ri:ki wS wA W rb gm pb pp pn l f N b
 av:W.ownsRow 0 9 1 (.slice (some ⟨g,0,none⟩) pp pp) pp (strCells D)
theorem PS.alloc{wS wA W:World}{rb gm pb pp:Nat}{pn:ByteArray}{l:List UInt8}{f:Bool}{N:List GT}{D:List ByteArray}{g:Nat}(h:PS wS wA W rb gm pb pp pn l f N D g none):PS wS wA (W.alloc (.cells #[.string ⟨#[]⟩,.string ⟨#[]⟩,.string ⟨#[]⟩] 119)) rb gm pb pp pn l f N D g (some W.heap.size):=⟨h.ri.alloc,h.av.alloc _⟩
structure RCg(wS wA:World)(rb gm pb pp:Nat)(pn:ByteArray)(l:List UInt8)(f:Bool)(N:List GT)(x0 x1 x2:ByteArray)(ok:Bool)(v12 v13:Value)(wx:World):Prop where
 v13:v13=.bool ok
 out:∃xb,v12=.pointer (some ⟨xb,0,none⟩)∧wx.heap[xb]?=some (.cells #[.string x0,.string x1,.string x2] 119 (0,0))∧ki wS wA wx rb gm pb pp pn l f N none
theorem ki.Tm{wS wA W:World}{rb gm pb pp:Nat}{pn:ByteArray}{l:List UInt8}{f:Bool}{N:List GT}{x:Nat}(h:ki wS wA W rb gm pb pp pn l f N (some x))(x0 x1 x2:ByteArray)(ok:Bool):RCg wS wA rb gm pb pp pn l f N x0 x1 x2 ok (.pointer (some ⟨x,0,none⟩)) (.bool ok) (((W.setCell ⟨x,0,none⟩ (.string x0)).setCell ⟨x,1,none⟩ (.string x1)).setCell ⟨x,2,none⟩ (.string x2)):=by
 obtain⟨h1,h2,h3⟩:=h.da x rfl
 have hk:Kb [x] W (((W.setCell ⟨x,0,none⟩ (.string x0)).setCell ⟨x,1,none⟩ (.string x1)).setCell ⟨x,2,none⟩ (.string x2)):=((Kb.setCell W ⟨x,0,none⟩ _).trans (Kb.setCell _ ⟨x,1,none⟩ _)).trans (Kb.setCell _ ⟨x,2,none⟩ _)
 have og:=h.rd
 unfold cJ at og
 refine⟨rfl,x,rfl,vY h1 _ _ _, ?_,hk.aK h.be h.be.size (by simpa using h2),h.TH.kept hk (fun b hb hm=> ?_),h.tk.trans (lj.sB hk h1 (by simp)),hk.heap h.Le (by simpa using lN h.Le h1 (by decide)),fun x hx=>by cases hx⟩
 · exact hk.heap og (by simpa using lN og h1 (by decide))
 · simp at hm
   subst hm
   exact h3 hb
theorem ki.TP{wS wA W:World}{rb gm pb pp:Nat}{pn:ByteArray}{l:List UInt8}{f:Bool}{N:List GT}(h:ki wS wA W rb gm pb pp pn l f N none)(x0 x1 x2:ByteArray)(ok:Bool):RCg wS wA rb gm pb pp pn l f N x0 x1 x2 ok (.pointer (some ⟨W.heap.size,0,none⟩)) (.bool ok) (W.alloc (.cells #[.string x0,.string x1,.string x2] 119)):=by
 have h2:=h.below (w':=W.alloc (.cells #[.string x0,.string x1,.string x2] 119)) ((Below.refl _ _).alloc (Nat.le_refl _) _)
 exact⟨rfl,W.heap.size,rfl,heap_alloc_new _ _,h2⟩
theorem Rd.uk{m:Nat}:∀(k:Nat) (l:List UInt8) (f:Bool),l.length≤m→∀x,x∈(Rd.texts k l f).1→x.size≤m
 | 0,l,f,_,x,hx=>by cases hx
 | k+1,l,f,hl,x,hx=>by
  simp only[Rd.texts,List.mem_append,List.mem_singleton]at hx
  rcases hx with hx | rfl
  · exact Rd.uk k l f hl x hx
  · have h1:=Rd.wK k l f
    have h2:(Rd.text (Rd.texts k l f).2.1 (Rd.texts k l f).2.2).1.length≤(Rd.texts k l f).2.1.length:=by
     have:=Rd.eu (Rd.texts k l f).2.1 (Rd.texts k l f).2.2 9223372036854775807
     unfold Rd.text
     simp only
     split
     · simp
     · simp only[List.length_take]
       omega
    show(Rd.text (Rd.texts k l f).2.1 (Rd.texts k l f).2.2).1.toArray.size≤m
    simp
    omega
theorem Rd.Ee{m:Nat}(l:List UInt8)(f:Bool)(hl:l.length≤m):∀x,x∈(Rd.names l f).1→x.size≤m:=by
 have:=Rd.eu l f 600
 exact Rd.uk _ _ _ (by omega)
theorem Rd.E9(l:List UInt8)(f:Bool):(Rd.names l f).1.length≤600:=by
 unfold Rd.names
 rw[Rd.tO]
 exact Rd.pL l f 600
theorem Rd.uo{m:Nat}{N:List ByteArray}(hN:∀x,x∈N→x.size≤m):∀(k:Nat) (l:List UInt8) (f:Bool),∀x,x∈(Rd.bz N k l f).1→x.size≤m
 | 0,l,f,x,hx=>by cases hx
 | k+1,l,f,x,hx=>by
  simp only[Rd.bz,List.mem_append,List.mem_singleton]at hx
  rcases hx with hx | rfl
  · exact Rd.uo hN k l f x hx
  · split
    · exact Nat.zero_le _
    · rw[List.getD_eq_getElem?_getD]
      cases h:N[(Rd.number (Rd.bz N k l f).2.1 (Rd.bz N k l f).2.2 ((N.length:Int)-1)).1]? with
      | none=>exact Nat.zero_le _
      | some y=>exact hN y (List.mem_of_getElem? h)
def Rd.pf(N:List ByteArray)(Q:List Pd.Pr)(pn:ByteArray)(pp k:Nat)(l:List UInt8)(f:Bool)(R:Rd.dz):Option (Rd.dz×List UInt8×Bool):=(Rd.fl N pn pp k l f R).bind fun x=>Rd.eQ N Q x.2.1 x.2.2 x.1
theorem zm(wS w:World)(rb:Nat)(Q:List Pd.Pr)(hs:Pd.lX Q)(Wb:Q.length≤6)(lu:∀p,p∈Q→p.2≤3∧p.1.size≤1000000)(l:List UInt8)(f:Bool)(hl:l.length≤100000000)(hb:Below wS.heap.size wS w)(BO:wS.heap.size≤rb)(hr:cJ w rb l f)(hU:fw wS)(qd:Option Addr)(qc:Nat)(hq:w.ownsRow 0 112 2 (.slice qd Q.length qc) Q.length (au Q)):
 Calls Tryz.prog 82 #[.pointer (some ⟨rb,0,none⟩),.slice qd Q.length qc] w fun e w'=>Below wS.heap.size wS w'∧((e=.returned (.tuple #[.map none,.bool false])∧Rd.dJ Q l f=none)∨∃gm R l' f',e=.returned (.tuple #[.map (some gm),.bool (!f')])∧Rd.dJ Q l f=some (R,l',f')∧(∃G,jY w' gm G∧GQ G Q R∧∀b,b∈ev gm G→wS.heap.size≤b)∧lj xI w w'):=by
 have HU:Hid (fw wS):=hU
 have iG:=yZ w rb l f hr (by omega)
 obtain⟨vk,R3⟩:∃vk,vk=Rd.dJ Q l f:=⟨_,rfl⟩
 have HNS:Hid (∀x,x∈(Rd.names l f).1→x.size≤100000000):=Rd.Ee l f hl
 have hN6:(Rd.names l f).1.length≤600:=Rd.E9 l f
 have FD:(Rd.names l f).2.1.length≤100000000:=by
  have h1:=Rd.eu l f 600
  have h2:=Rd.wK (Rd.number l f 600).1 (Rd.number l f 600).2.1 (Rd.number l f 600).2.2
  unfold Rd.names
  omega
 rw[←R3]
 unfold Rd.dJ at R3
 generalize (Rd.names l f).1=N at*
 generalize (Rd.names l f).2.1=l1 at*
 generalize (Rd.names l f).2.2=f1 at*
 have BW:Hid (Calls Tryz.prog 140 #[.pointer (some ⟨rb,0,none⟩)] w fun e w1=>∃g,e=.returned (.slice (some ⟨g,0,none⟩) N.length N.length)∧Hid (w1.ownsRow 0 9 1 (.slice (some ⟨g,0,none⟩) N.length N.length) N.length (strCells N)∧cJ w1 rb l1 f1∧Below wS.heap.size wS w1∧w1.ownsRow 0 112 2 (.slice qd Q.length qc) Q.length (au Q)∧lj xI w w1)):=by
  refine iG.mono ?_
  rintro e w1 ⟨g,rfl,q1,q2,q3⟩
  unfold cJ at hr
  exact⟨g,rfl,aN q1 (Nat.zero_le _),q2,q3.aK hb hb.size (by simpa using BO),(lj.sB q3 hr (bad:=[251]) (by simp)).row hq (by simp),lj.sB q3 hr (by simp)⟩
 have HNG:Hid (∀w1,Below wS.heap.size wS w1→cJ w1 rb l1 f1→w1.ownsRow 0 112 2 (.slice qd Q.length qc) Q.length (au Q)→Calls Tryz.prog 58 #[.slice qd Q.length qc] w1 fun e w2=>e=.returned (.map (some w1.heap.size))∧Hid (Ty wS w2 rb w1.heap.size Q l1 f1 (fun _=>[])∧Below w1.heap.size w1 w2)):=by
  intro w1 bk Cn hq1
  refine(qe w1 0 qd qc Q hq1 (by omega) (fun p hp=>(lu p hp).2)).mono ?_
  rintro e w2 ⟨T,rfl,hT⟩
  obtain⟨k1,k2,k3⟩:=N6 hT hs (by omega) (fun p hp=>(lu p hp).2)
  refine⟨rfl,⟨?_,BO,bk.trans (hT.be.mono bk.size),T,k1,k2,fun b hb=>Nat.le_trans bk.size (k3 b hb)⟩,hT.be⟩
  unfold cJ at Cn ⊢
  rw[hT.be.block _ (lt_of_heap Cn)]
  exact Cn
 have LS:Hid (∀p,p∈Q→p.2≤3):=fun p hp=>(lu p hp).1
 have pQ:Hid (vk=Rd.eQ N (Q.drop 0) l1 f1 (fun _=>[])):=R3
 clear iG hr hq hb hU lu hs R3 hl
 go_enter Tryz.func82,Tryz.ntmps82
 go_wp2_with (first | (go_at_call 140;refine BW.out.mono ?_;rintro e w1 ⟨gn,rfl,H1⟩) | (go_at_call 58;refine(HNG.out w1 H1.out.2.2.1 H1.out.2.1 H1.out.2.2.2.1).mono ?_;rintro e w2 ⟨rfl,H2⟩))
 have HN2:Hid (w2.ownsRow 0 9 1 (.slice (some ⟨gn,0,none⟩) N.length N.length) N.length (strCells N)∧w2.ownsRow 0 112 2 (.slice qd Q.length qc) Q.length (au Q)):=⟨af H1.out.1 H2.out.2,af H1.out.2.2.2.1 H2.out.2⟩
 have HTW:Hid (lj xI w w2):=H1.out.2.2.2.2.trans (lj.bG H2.out.2 _)
 have P2:Hid (Ty wS w2 rb w1.heap.size Q l1 f1 (fun _=>[])):=H2.out.1
 generalize w1.heap.size=gm at P2
 clear BW HNG H2 H1
 go_loopw [20] (fun i wr=>∃(k:Nat) (l:List UInt8) (f:Bool) (R:Rd.dz),k≤Q.length∧i=.int .i64 k∧vk=Rd.eQ N (Q.drop k) l f R∧l.length≤100000000∧(∀p,(R p).length≤200*k)∧Ty wS wr rb gm Q l f R∧lj xI w2 wr) (fun i _=>Q.length-(intOf i).toNat)
 case atStart=>exact⟨0,l1,f1,_,Nat.zero_le _,rfl,pQ.out,FD,fun p=>Nat.le_refl 0,P2.out,lj.bG (Below.refl _ _) _⟩
 case round=>
  obtain⟨k,l,f,R,hk,rfl,dv,S4,Qf,hRA,Zg⟩:=hrel
  obtain⟨wA,rfl⟩:∃x,x=wr:=⟨_,rfl⟩
  clear P2 pQ
  by_cases aC:k<Q.length
  · obtain⟨g2,rfl,dL,uw,bA⟩:=ax (Zg.row HN2.out.2 (by decide)) (by omega)
    have c0:=bA _ _ (aU Q k aC).1
    have c1:=bA _ _ (aU Q k aC).2
    have Fe:((Q[k]).1,(Q[k]).2)∈Q:=List.getElem_mem aC
    have N2:Q.drop k=Q[k]::Q.drop (k+1):=List.drop_eq_getElem_cons aC
    rw[N2]at dv
    have F4:=LS.out _ Fe
    simp only at F4
    have SY:vk=Rd.pf N (Q.drop (k+1)) (Q[k]).1 (Q[k]).2 (Rd.number l f 200).1 (Rd.number l f 200).2.1 (Rd.number l f 200).2.2 R:=dv
    generalize (Q[k]).1=pn at*
    generalize (Q[k]).2=pp at*
    obtain⟨tg,hP,oe⟩:=hRA.toB Fe
    obtain⟨wP,IV⟩:∃wP,wP=wA.alloc (.cells #[.string pn,.int .i64 (pp:Nat)] 112):=⟨_,rfl⟩
    have IU:Below wA.heap.size wA wP:=by rw[IV];exact(Below.refl _ _).alloc (Nat.le_refl _) _
    have LQ:wP.heap[wA.heap.size]?=some (.cells #[.string pn,.int .i64 (pp:Nat)] 112 (0,0)):=by rw[IV];exact heap_alloc_new wA _
    have p0:wP.cell? ⟨wA.heap.size,0,none⟩=some (.string pn):=by rw[cell_of_row _ _ _ _ _ _ LQ];rfl
    have l1:=oe wP IU
    have hPP:=hP.below IU
    have Nr:=fS wP rb l f 200 hPP.rd (by omega)
    have FK:(Rd.number l f 200).1≤200:=Rd.pL l f 200
    have Xz:(Rd.number l f 200).2.1.length≤100000000:=Nat.le_trans (Rd.eu l f 200) S4
    generalize (Rd.number l f 200).1=n at*
    generalize (Rd.number l f 200).2.1=l2 at*
    generalize (Rd.number l f 200).2.2=f2 at*
    have HTP:Hid (lj xI w2 wP):=Zg.trans (lj.bG IU _)
    have Fy:Hid (Calls Tryz.prog 139 #[.pointer (some ⟨rb,0,none⟩),.int .i64 200] wP fun e w3=>e=.returned (.int .i64 (n:Nat))∧Hid (tF wS w3 rb gm Q l2 f2 R pn pp tg∧lj xI w2 w3∧w3.heap[wA.heap.size]?=some (.cells #[.string pn,.int .i64 (pp:Nat)] 112 (0,0)))):=by
     refine Nr.mono ?_
     rintro e w3 ⟨rfl,q1,q2⟩
     obtain⟨r1,r2⟩:=hPP.read q2 q1
     exact⟨rfl,r1,HTP.out.trans r2,r2.heap LQ (by decide)⟩
    have ai2:tg<wP.heap.size:=by
     obtain⟨N',k1,_,_,t,ht,_,e,_⟩:=hPP.ot
     rw[←e]
     exact lt_of_heap (cl.da (k1.bX t ht))
    have WI:Hid (vk=Rd.pf N (Q.drop (k+1)) pn pp n l2 f2 R∧l2.length≤100000000∧∀p,(R p).length≤200*k+0):=⟨SY,Xz,Qf⟩
    clear hRA Zg bA hP oe Nr hPP IU LQ dv SY S4 Xz Qf N2
    go_upto_region 6 with fail
    rw[←IV]
    clear IV
    go_wp2_with (go_at_call 139;refine Fy.out.mono ?_;rintro e w3 ⟨rfl,H3⟩)
    clear Fy l1 p0 c0 c1
    go_loopw [30] (fun i w4=>∃(q:Nat) (l:List UInt8) (f:Bool) (R:Rd.dz),q≤n∧i=.int .i64 q∧vk=Rd.pf N (Q.drop (k+1)) pn pp (n-q) l f R∧l.length≤100000000∧(∀p,(R p).length≤200*k+q)∧tF wS w4 rb gm Q l f R pn pp tg∧lj xI w2 w4∧w4.heap[wA.heap.size]?=some (.cells #[.string pn,.int .i64 (pp:Nat)] 112 (0,0))) (fun i _=>n-(intOf i).toNat)
    case atStart=>exact⟨0,l2,f2,R,Nat.zero_le _,rfl,WI.out.1,WI.out.2.1,WI.out.2.2,H3.out⟩
    case round=>
     obtain⟨q,l,f,R,hq,rfl,dv,S4,Qf,Xp,hT4,WR⟩:=hrel
     clear H3 WI
     by_cases CU:q<n
     · obtain⟨m,hm⟩:∃m,n-q=m+1:=⟨n-q-1,by omega⟩
       have M9:n-(q+1)=m:=by omega
       have vU:=fS wr rb l f 1 Xp.rd (by omega)
       have hla:(Rd.number l f 1).2.1.length≤100000000:=Nat.le_trans (Rd.eu l f 1) S4
       have hlb:(Rd.number (Rd.number l f 1).2.1 (Rd.number l f 1).2.2 320000).2.1.length≤100000000:=Nat.le_trans (Rd.eu _ _ 320000) hla
       have hlc:(Rd.bz N pp (Rd.number (Rd.number l f 1).2.1 (Rd.number l f 1).2.2 320000).2.1 (Rd.number (Rd.number l f 1).2.1 (Rd.number l f 1).2.2 320000).2.2).2.1.length≤100000000:=Nat.le_trans (Rd.DX _ _ _ _) hlb
       have PU:=Rd.ti N pp (Rd.number (Rd.number l f 1).2.1 (Rd.number l f 1).2.2 320000).2.1 (Rd.number (Rd.number l f 1).2.1 (Rd.number l f 1).2.2 320000).2.2
       have HDS:Hid (∀x,x∈(Rd.bz N pp (Rd.number (Rd.number l f 1).2.1 (Rd.number l f 1).2.2 320000).2.1 (Rd.number (Rd.number l f 1).2.1 (Rd.number l f 1).2.2 320000).2.2).1→x.size≤100000000):=Rd.uo HNS.out _ _ _
       have eo:Rd.pf N (Q.drop (k+1)) pn pp (n-q) l f R=if (Rd.bz N pp (Rd.number (Rd.number l f 1).2.1 (Rd.number l f 1).2.2 320000).2.1 (Rd.number (Rd.number l f 1).2.1 (Rd.number l f 1).2.2 320000).2.2).1.all Ax.cf=true then Rd.pf N (Q.drop (k+1)) pn pp m (Rd.bz N pp (Rd.number (Rd.number l f 1).2.1 (Rd.number l f 1).2.2 320000).2.1 (Rd.number (Rd.number l f 1).2.1 (Rd.number l f 1).2.2 320000).2.2).2.1 (Rd.bz N pp (Rd.number (Rd.number l f 1).2.1 (Rd.number l f 1).2.2 320000).2.1 (Rd.number (Rd.number l f 1).2.1 (Rd.number l f 1).2.2 320000).2.2).2.2 (if decide ((Rd.number l f 1).1=1)=true then Rd.lk R pn (Tb.put (R pn) (Tb.dh (Rd.bz N pp (Rd.number (Rd.number l f 1).2.1 (Rd.number l f 1).2.2 320000).2.1 (Rd.number (Rd.number l f 1).2.1 (Rd.number l f 1).2.2 320000).2.2).1))else R)else none:=by
        rw[hm]
        by_cases h9:(Rd.iL N pp l f).2.1.all Ax.cf=true
        · have h8:=h9
          unfold Rd.iL at h8
          rw[if_pos h8]
          unfold Rd.pf
          simp only[Rd.fl]
          rw[if_pos h9]
          rfl
        · have h8:=h9
          unfold Rd.iL at h8
          rw[if_neg h8]
          unfold Rd.pf
          simp only[Rd.fl]
          rw[if_neg h9]
          rfl
       rw[eo]at dv
       have hrf:=fun W (hW:cJ W rb (Rd.number (Rd.number l f 1).2.1 (Rd.number l f 1).2.2 320000).2.1 (Rd.number (Rd.number l f 1).2.1 (Rd.number l f 1).2.2 320000).2.2) (hN:W.ownsRow 0 9 1 (.slice (some ⟨gn,0,none⟩) N.length N.length) N.length (strCells N))=>B4 W rb _ _ hW (by omega) (some ⟨gn,0,none⟩) N.length N.length N hN (by omega) pp (by omega)
       have VX:=fun W (hW:cJ W rb (Rd.number l f 1).2.1 (Rd.number l f 1).2.2)=>fS W rb _ _ 320000 hW (by omega)
       clear eo
       generalize (Rd.bz N pp (Rd.number (Rd.number l f 1).2.1 (Rd.number l f 1).2.2 320000).2.1 (Rd.number (Rd.number l f 1).2.1 (Rd.number l f 1).2.2 320000).2.2).1=dl at*
       generalize (Rd.bz N pp (Rd.number (Rd.number l f 1).2.1 (Rd.number l f 1).2.2 320000).2.1 (Rd.number (Rd.number l f 1).2.1 (Rd.number l f 1).2.2 320000).2.2).2.1=lt at*
       generalize (Rd.bz N pp (Rd.number (Rd.number l f 1).2.1 (Rd.number l f 1).2.2 320000).2.1 (Rd.number (Rd.number l f 1).2.1 (Rd.number l f 1).2.2 320000).2.2).2.2=ft at*
       generalize (Rd.number (Rd.number l f 1).2.1 (Rd.number l f 1).2.2 320000).1=cj at*
       generalize (Rd.number (Rd.number l f 1).2.1 (Rd.number l f 1).2.2 320000).2.1=lb at*
       generalize (Rd.number (Rd.number l f 1).2.1 (Rd.number l f 1).2.2 320000).2.2=fb at*
       generalize (Rd.number l f 1).2.1=la at*
       generalize (Rd.number l f 1).2.2=fa at*
       generalize (Rd.number l f 1).1=fn at*
       have Xh:(((fn:Nat):Int)==1)=decide (fn=1):=by
        by_cases h9:fn=1
        · simp[h9]
        · simp[h9]
          omega
       generalize decide (fn=1)=gj at*
       have HN1:Hid (Calls Tryz.prog 139 #[.pointer (some ⟨rb,0,none⟩),.int .i64 1] wr fun e w5=>e=.returned (.int .i64 (fn:Nat))∧Hid (tF wS w5 rb gm Q la fa R pn pp tg∧lj xI w2 w5∧w5.heap[wA.heap.size]?=some (.cells #[.string pn,.int .i64 (pp:Nat)] 112 (0,0)))):=by
        refine vU.mono ?_
        rintro e w5 ⟨rfl,q1,q2⟩
        obtain⟨r1,r2⟩:=Xp.read q2 q1
        exact⟨rfl,r1,hT4.trans r2,r2.heap WR (by decide)⟩
       have HN3:Hid (∀w5,tF wS w5 rb gm Q la fa R pn pp tg→lj xI w2 w5→w5.heap[wA.heap.size]?=some (.cells #[.string pn,.int .i64 (pp:Nat)] 112 (0,0))→Calls Tryz.prog 139 #[.pointer (some ⟨rb,0,none⟩),.int .i64 320000] w5 fun e w6=>e=.returned (.int .i64 (cj:Nat))∧Hid (tF wS w6 rb gm Q lb fb R pn pp tg∧lj xI w2 w6∧w6.heap[wA.heap.size]?=some (.cells #[.string pn,.int .i64 (pp:Nat)] 112 (0,0)))):=by
        intro w5 h5 t5 b5
        refine(VX w5 h5.rd).mono ?_
        rintro e w6 ⟨rfl,q1,q2⟩
        obtain⟨r1,r2⟩:=h5.read q2 q1
        exact⟨rfl,r1,t5.trans r2,r2.heap b5 (by decide)⟩
       have VF:Hid (∀w6 N',lj xI w2 w6→∀b W,ki wS w6 W rb gm wA.heap.size pp pn lb fb N' b→Calls Tryz.prog 141 #[.pointer (some ⟨rb,0,none⟩),.slice (some ⟨gn,0,none⟩) N.length N.length,.int .i64 (pp:Nat)] W fun e w'=>∃g,e=.returned (.slice (some ⟨g,0,none⟩) pp pp)∧PS wS w6 w' rb gm wA.heap.size pp pn lt ft N' dl g b):=by
        intro w6 N' t6 b W hW
        refine(hrf W hW.rd ((t6.trans hW.tk).row HN2.out.1 (by decide))).mono ?_
        rintro e w' ⟨g,rfl,q1,q2,q3⟩
        exact⟨g,rfl,hW.read BO q3 q2,aN q1 (Nat.zero_le _)⟩
       have Oi:Hid (vk=if dl.all Ax.cf=true then Rd.pf N (Q.drop (k+1)) pn pp m lt ft (if gj=true then Rd.lk R pn (Tb.put (R pn) (Tb.dh dl))else R)else none):=dv
       obtain⟨x0,FL⟩:∃x0,x0=Tb.eh (if dl.all Ax.cf=true then dl else []) 0:=⟨_,rfl⟩
       obtain⟨x1,pE⟩:∃x1,x1=Tb.eh (if dl.all Ax.cf=true then dl else []) 1:=⟨_,rfl⟩
       obtain⟨x2,Jr⟩:∃x2,x2=Tb.eh (if dl.all Ax.cf=true then dl else []) 2:=⟨_,rfl⟩
       obtain⟨ok,cB⟩:∃ok,ok=dl.all Ax.cf:=⟨_,rfl⟩
       have TS:Hid (x0=Tb.eh (if dl.all Ax.cf=true then dl else []) 0∧x1=Tb.eh (if dl.all Ax.cf=true then dl else []) 1∧x2=Tb.eh (if dl.all Ax.cf=true then dl else []) 2∧ok=dl.all Ax.cf):=⟨FL,pE,Jr,cB⟩
       have LP:Hid (∀w6 N',(∀W,jY W gm N'→cJ W rb lt ft→Below wS.heap.size wS W→tF wS W rb gm Q lt ft R pn pp tg)→∀b W g,PS wS w6 W rb gm wA.heap.size pp pn lt ft N' dl g b→Calls Tryz.prog 74 #[.pointer (some ⟨tg,0,none⟩),.slice (some ⟨g,0,none⟩) pp pp] W fun e w'=>e=.returned (.tuple #[.agg #[.string x0,.string x1,.string x2],.bool ok])∧ki wS w6 w' rb gm wA.heap.size pp pn lt ft N' b):=by
        intro w6 N' Vk b W g hW
        have xq:=hW.av
        have hP9:=Vk W hW.ri.TH hW.ri.rd hW.ri.be
        have h9:=hP9.row HU.out (Below.refl _ _) PU F4 (fun a ha=>Nat.le_trans (HDS.out a ha) (by unfold maxLen;omega)) (av:=.slice (some ⟨g,0,none⟩) pp pp) (by rw[PU];exact xq)
        refine h9.mono ?_
        rintro e w' ⟨rfl,hb⟩
        refine⟨?_,hW.ri.below hb⟩
        obtain⟨a0,a1,a2,a3⟩:=TS.out
        rw[a0,a1,a2,a3]
        cases h8:dl.all Ax.cf<;>rfl
       have Mm:Hid (∀w7,tF wS w7 rb gm Q lt ft R pn pp tg→ok=true→Calls Tryz.prog 127 #[.pointer (some ⟨tg,0,none⟩),.agg #[.string x0,.string x1,.string x2]] w7 fun e w'=>e=.returned (.tuple #[])∧Hid (tF wS w' rb gm Q lt ft (Rd.lk R pn (Tb.put (R pn) (Tb.dh dl))) pn pp tg∧lj xI w7 w')):=by
        intro w7 h7 cB
        have h9:=h7.dO dl (by have:=Qf pn;omega)
        obtain⟨a0,a1,a2,a3⟩:=TS.out
        rw[a3]at cB
        rw[a0,a1,a2,if_pos cB]
        exact h9.mono (fun e w' ⟨a,b⟩=>⟨a,b⟩)
       have Z0:Hid (∀p,(R p).length≤200*k+q):=Qf
       have Tf:Hid (lt.length≤100000000):=hlc
       clear vU Xp hT4 WR hrf VX dv FL pE Jr cB hla hlb hlc S4 Qf
       go_upto_region 11 with(go_at_call 139;first | (refine HN1.out.mono ?_;rintro e w5 ⟨rfl,H5⟩;clear HN1) | (refine(HN3.out w5 H5.out.1 H5.out.2.1 H5.out.2.2).mono ?_;rintro e w6 ⟨rfl,H6⟩))
       obtain⟨N',g1,g2,g3,g4⟩:=H6.out.1.ot
       have Hx:Hid (∀W,jY W gm N'→cJ W rb lt ft→Below wS.heap.size wS W→tF wS W rb gm Q lt ft R pn pp tg):=fun W a b c=>⟨b,BO,c,N',a,g2,g3,g4⟩
       have hI0:ki wS w6 w6 rb gm wA.heap.size pp pn lb fb N' none:=⟨H6.out.1.rd,H6.out.1.be,g1,lj.bG (Below.refl _ _) _,H6.out.2.2,fun x hx=>by cases hx⟩
       have HT6:Hid (lj xI w2 w6):=H6.out.2.1
       have akc:tg<w6.heap.size:=by
        obtain⟨t,ht,_,e,_⟩:=g4
        rw[←e]
        exact lt_of_heap (cl.da (g1.bX t ht))
       have ZM:Hid (∀b W,ki wS w6 W rb gm wA.heap.size pp pn lb fb N' b→Calls Tryz.prog 141 #[.pointer (some ⟨rb,0,none⟩),.slice (some ⟨gn,0,none⟩) N.length N.length,.int .i64 (pp:Nat)] W fun e w'=>∃g,e=.returned (.slice (some ⟨g,0,none⟩) pp pp)∧PS wS w6 w' rb gm wA.heap.size pp pn lt ft N' dl g b):=VF.out w6 N' HT6.out
       have Zx:Hid (∀b W g,PS wS w6 W rb gm wA.heap.size pp pn lt ft N' dl g b→Calls Tryz.prog 74 #[.pointer (some ⟨tg,0,none⟩),.slice (some ⟨g,0,none⟩) pp pp] W fun e w'=>e=.returned (.tuple #[.agg #[.string x0,.string x1,.string x2],.bool ok])∧ki wS w6 w' rb gm wA.heap.size pp pn lt ft N' b):=LP.out w6 N' Hx.out
       clear H5 HN3 VF LP g1 g2 g3 g4 H6 PU HDS
       go_cut [12,13,30]from 30 to 55 (fun v12 v13 iv wx=>iv=.int .i64 q∧Hid (RCg wS w6 rb gm wA.heap.size pp pn lt ft N' x0 x1 x2 ok v12 v13 wx))
       case first=>
        have hpc:=hI0.pc
        go_region_held3 (fun W=>W.cell? ⟨wA.heap.size,1,none⟩=some (.int .i64 (pp:Nat))) (first | (exact ki.pc (by assumption)) | (exact ki.pc (ki.drew (by assumption))) | (exact ki.pc (ki.alloc (by assumption))) | (exact ki.pc (ki.alloc (ki.drew (by assumption)))) | (exact ki.pc (PS.ri (by assumption))) | (exact ki.pc (ki.alloc (PS.ri (by assumption)))) | (exact ki.pc (by obtain⟨_,_,_,_,zx⟩:=ki.Tm (by assumption) x0 x1 x2 ok;exact zx)) | (exact ki.pc (by obtain⟨_,_,_,_,zx⟩:=ki.TP (by assumption) x0 x1 x2 ok;exact zx))) (first | (go_at_call 141;refine(ZM.out _ _ (by first | assumption | exact ki.drew (by assumption) | exact ki.alloc (by assumption) | exact ki.alloc (ki.drew (by assumption)))).mono ?_;rintro e wn ⟨gl,rfl,hJn⟩) | (go_at_call 74;refine(Zx.out _ _ _ (by first | assumption | exact PS.alloc (by assumption))).mono ?_;rintro e wm ⟨rfl,hIm⟩;(try (obtain⟨z0,z1,z2,f0,f1,f2,zl⟩:=ki.cells hIm;(try simp only[World.size_drew]at z0 z1 z2 f0 f1 f2 zl)))))
        all_goals
         (go_wp2_with fail
          go_meet
          first
          | exact⟨rfl,ki.Tm (by assumption) _ _ _ _⟩
          | exact⟨rfl,ki.TP (by assumption) _ _ _ _⟩)
       case rest=>
        obtain⟨hiv,H7⟩:=hcut
        subst hiv
        obtain⟨aaU,xb,ad8,bV,Wk⟩:=H7.out
        subst aaU
        subst ad8
        have Yy:tF wS wc rb gm Q lt ft R pn pp tg:=Hx.out wc Wk.TH Wk.rd Wk.be
        have SX:lj xI w2 wc:=HT6.out.trans Wk.tk
        have Zb:=Wk.Le
        have r0:wc.cell? ⟨xb,0,none⟩=some (.string x0):=by rw[cell_of_row _ _ _ _ _ _ bV];rfl
        have r1:wc.cell? ⟨xb,1,none⟩=some (.string x1):=by rw[cell_of_row _ _ _ _ _ _ bV];rfl
        have r2:wc.cell? ⟨xb,2,none⟩=some (.string x2):=by rw[cell_of_row _ _ _ _ _ _ bV];rfl
        have qb:=lt_of_heap bV
        have YI:Hid (tF wS wc rb gm Q lt ft R pn pp tg∧lj xI w2 wc∧wc.heap[wA.heap.size]?=some (.cells #[.string pn,.int .i64 (pp:Nat)] 112 (0,0))):=⟨Yy,SX,Zb⟩
        clear H7 Wk bV ZM Zx hI0
        cases ok with
        | false=>
         have HEN:Hid (Below wS.heap.size wS wc∧vk=none):=by
          refine⟨YI.out.1.be, ?_⟩
          have h9:=Oi.out
          rw[←TS.out.2.2.2,if_neg (by decide)]at h9
          exact h9
         clear Yy SX Zb YI Mm Oi r0 r1 r2 TS
         go_wp2_with fail
         go_ret2
         exact⟨HEN.out.1,.inl ⟨rfl,HEN.out.2⟩⟩
        | true=>
         have Lp:Hid (vk=Rd.pf N (Q.drop (k+1)) pn pp m lt ft (if gj=true then Rd.lk R pn (Tb.put (R pn) (Tb.dh dl))else R)):=by
          have h9:=Oi.out
          rw[←TS.out.2.2.2,if_pos rfl]at h9
          exact h9
         cases gj with
         | true=>
          have Wm:Hid (Calls Tryz.prog 127 #[.pointer (some ⟨tg,0,none⟩),.agg #[.string x0,.string x1,.string x2]] wc fun e w'=>e=.returned (.tuple #[])∧Hid (vk=Rd.pf N (Q.drop (k+1)) pn pp (n-(q+1)) lt ft (Rd.lk R pn (Tb.put (R pn) (Tb.dh dl)))∧lt.length≤100000000∧(∀p,(Rd.lk R pn (Tb.put (R pn) (Tb.dh dl)) p).length≤200*k+(q+1))∧tF wS w' rb gm Q lt ft (Rd.lk R pn (Tb.put (R pn) (Tb.dh dl))) pn pp tg∧lj xI w2 w'∧w'.heap[wA.heap.size]?=some (.cells #[.string pn,.int .i64 (pp:Nat)] 112 (0,0)))):=by
           refine(Mm.out wc Yy rfl).mono ?_
           rintro e w' ⟨rfl,H9⟩
           rw[M9]
           refine⟨rfl,Lp.out,Tf.out,fun p=> ?_,H9.out.1,SX.trans H9.out.2,H9.out.2.heap Zb (by decide)⟩
           have h7:=Z0.out pn
           have h8:=Z0.out p
           have h9:=Rd.pJ (R pn) (Tb.dh dl)
           unfold Rd.lk
           split<;>omega
          clear Yy SX Zb YI Mm Oi Lp TS
          go_wp2_with (go_at_call 127;refine Wm.out.mono ?_;rintro e w9 ⟨rfl,H9⟩)
          go_roundw
          case rel=>exact⟨q+1,lt,ft,_,CU,by go_num,H9.out⟩
          case measure=>simp[intOf];omega
         | false=>
          have Wm:Hid (vk=Rd.pf N (Q.drop (k+1)) pn pp (n-(q+1)) lt ft R∧lt.length≤100000000∧(∀p,(R p).length≤200*k+(q+1))∧tF wS wc rb gm Q lt ft R pn pp tg∧lj xI w2 wc∧wc.heap[wA.heap.size]?=some (.cells #[.string pn,.int .i64 (pp:Nat)] 112 (0,0))):=by
           rw[M9]
           refine⟨Lp.out,Tf.out,fun p=> ?_,YI.out⟩
           have h8:=Z0.out p
           omega
          clear Yy SX Zb YI Mm Oi Lp TS r0 r1 r2
          go_wp2_with fail
          go_roundw
          case rel=>exact⟨q+1,lt,ft,R,CU,by go_num,Wm.out⟩
          case measure=>simp[intOf];omega
     · have HE:Hid (vk=Rd.eQ N (Q.drop (k+1)) l f R∧l.length≤100000000∧(∀p,(R p).length≤200*(k+1))∧Ty wS wr rb gm Q l f R∧lj xI w2 wr):=by
        have e0:n-q=0:=by omega
        rw[e0]at dv
        refine⟨dv,S4,fun p=> ?_,Xp.toA,hT4⟩
        have h8:=Qf p
        omega
       clear Xp hT4 WR dv S4 Qf
       go_wp2_with fail
       go_roundw
       case rel=>exact⟨k+1,l,f,R,aC,by go_num,HE.out⟩
       case measure=>simp[intOf];omega
  · have CZ:k=Q.length:=by omega
    subst CZ
    have HE:Hid (vk=some (R,l,f)∧Ty wS wA rb gm Q l f R∧lj xI w wA):=by
     rw[List.drop_length]at dv
     exact⟨dv,hRA,HTW.out.trans Zg⟩
    have Uj:Hid (Calls Tryz.prog 142 #[.pointer (some ⟨rb,0,none⟩)] wA fun e w'=>e=.returned (.bool f)∧w'=wA):=nL wA rb l f HE.out.2.1.rd
    clear hRA Zg dv S4 Qf
    go_wp2_with (go_at_call 142;refine Uj.out.mono ?_;rintro e w9 ⟨rfl,hw⟩;subst hw)
    go_ret2
    exact⟨HE.out.2.1.be,.inr ⟨gm,R,l,f,rfl,HE.out.1,HE.out.2.1.ot,HE.out.2.2⟩⟩
end
end Go.Proofs.YtdmicblafmhflaaGreatDoor

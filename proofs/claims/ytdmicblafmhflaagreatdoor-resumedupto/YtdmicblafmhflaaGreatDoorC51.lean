/- Import of an export. -/
import Derived.Test.YtdmicblafmhflaaGreatDoorC50
import Derived.Test.YtdmicblafmhflaaGreatDoorC45
set_option linter.unusedSimpArgs false
set_option linter.unusedVariables false
set_option maxHeartbeats 4000000
set_option maxRecDepth 100000
namespace Go.Proofs.YtdmicblafmhflaaGreatDoor
section
open Go.RowKit Go.Maps
theorem Ae{w:World}{B eg:Nat}{kl:List Ax.aA}{gv:Nat→Bool}{n:Nat}{hd:List UInt8}{lg:List Value}{lv:Value}(hE:nG w B eg kl gv n)(hg:fX gv)(hH:iy w eg hd lg lv):∀W,Below w.heap.size w W→Calls Tryz.prog 23 #[.pointer (some ⟨eg,0,none⟩)] W fun e w'=>e=.returned (.string ⟨(Ex.body kl gv++hd).toArray⟩)∧Below W.heap.size W w':=by
 obtain⟨kJ,h1,h2,h3⟩:=FA hE hg
 obtain⟨pl,rv,gm,hm,e⟩:=hH.at_
 obtain⟨pl',rv',gm',hm',vk,e'⟩:=h3
 rw[e]at e'
 simp only[Option.some.injEq,Obj.cells.injEq,and_true]at e'
 obtain⟨rfl,_⟩:=og hH.Si h1 e'
 exact h2
theorem NU{wc:World}{kl:List Ax.aA}{gv:Nat→Bool}{rd:Option Addr}{rc gm hm:Nat}{l:List MR}{G:List GT}{T:List HT}{s:En.dH En.b7}{hd:List UInt8}(dS:aX wc rd rc l)(he:(l.map MR.ay).map Ax.lj=Ax.gR kl)(cu:hd.length=32)
 (h1:kY wc gm G)(h2:gh G gv)(h3:pe wc hm T s)(h4:En.Inv (En.sR (En.af kl)) (En.gF gv) s s.found.length)(h5:∀p,p∈T.map gX↔p∈jW){B:Nat}(hB:B≤wc.heap.size):
 nG (wc.alloc (.cells (bE (Ax.aC kl) (.slice rd l.length rc) gm hm hd (.slice none 0 0)) 109)) B wc.heap.size kl gv 0∧iy (wc.alloc (.cells (bE (Ax.aC kl) (.slice rd l.length rc) gm hm hd (.slice none 0 0)) 109)) wc.heap.size hd [] (.slice none 0 0):=by
 have hb:Below wc.heap.size wc (wc.alloc (.cells (bE (Ax.aC kl) (.slice rd l.length rc) gm hm hd (.slice none 0 0)) 109)):=(Below.refl _ _).alloc (Nat.le_refl _) _
 exact⟨⟨⟨_,rd,rc,l,gm,G,hm,T,s,hd,.slice none 0 0,0,[],heap_alloc_new _ _,dS.below hb,he,h1.below hb,h2,h3.below hb,h4,h5,cu,World.ownsRow_nil _ _ _ _,Nat.zero_le _,rfl⟩,hB⟩,⟨_,_,_,_,heap_alloc_new _ _⟩,cu,World.ownsRow_nil _ _ _ _⟩
theorem FM(w:World)(kl:List Ax.aA)(gv:Nat→Bool)(hg:fX gv)(hd:List UInt8)(cu:hd.length=32)(hU:eM w):
 Calls Tryz.prog 24 #[.string ⟨(Ex.body kl gv++hd).toArray⟩] w fun e w'=>∃eg,e=.returned (.tuple #[.pointer (some ⟨eg,0,none⟩),.int .i64 0])∧nG w' w.heap.size eg kl gv 0∧iy w' eg hd [] (.slice none 0 0)∧Below w.heap.size w w':=by
 have Oz:Hid (Calls Tryz.prog 45 #[.string ⟨(Ex.body kl gv++hd).toArray⟩] w fun e w1=>∃rd rc l gm hm G T s,e=.returned (.tuple #[.agg (aL (Ax.aC kl) (.slice rd (List.length l) rc) gm hm hd),.bool true])∧(∀Z:Array Value,Z.size=36→(storeCells ⟨w1.heap.size,0,none⟩ (aL (Ax.aC kl) (.slice rd l.length rc) gm hm hd).toList).run Tryz.prog (w1.alloc (.cells Z 107))=.ok () ((w1.alloc (.cells Z 107)).setCells w1.heap.size 0 (aL (Ax.aC kl) (.slice rd l.length rc) gm hm hd).toList))∧Hid (aX w1 rd rc l∧(l.map MR.ay).map Ax.lj=Ax.gR kl∧kY w1 gm G∧gh G gv∧pe w1 hm T s∧En.Inv (En.sR (En.af kl)) (En.gF gv) s s.found.length∧(∀p,p∈T.map gX↔p∈jW)∧Below w.heap.size w w1)):=by
  refine(FZ w kl gv hg hd cu hU).mono ?_
  rintro e w1 ⟨rd,rc,l,gm,hm,G,T,s,rfl,q⟩
  exact⟨rd,rc,l,gm,hm,G,T,s,rfl,fun Z hZ=>da (heap_alloc_new _ _) hZ (aJ _ _ _ _ cu) (gO _ _ _ _ _ _ _),q⟩
 generalize (⟨(Ex.body kl gv++hd).toArray⟩:ByteArray)=S at*
 clear hU
 go_enter Tryz.func24,Tryz.ntmps24
 go_upto_region 2 with(go_at_call 45;refine Oz.out.mono ?_;rintro e w1 ⟨rd,rc,l,gm,hm,G,T,s,rfl,eL,H1⟩;have cR:=aJ (Ax.aC kl) (.slice rd l.length rc) gm hm cu)
 obtain⟨w2,Co⟩:∃w2,w2=(w1.alloc (.cells (sK (.string ⟨#[]⟩) (.slice none 0 0) (.map none) (.map none)) 107)).setCells w1.heap.size 0 (aL (Ax.aC kl) (.slice rd l.length rc) gm hm hd).toList:=⟨_,rfl⟩
 have Ps:(w1.alloc (.cells (sK (.string ⟨#[]⟩) (.slice none 0 0) (.map none) (.map none)) 107)).heap[w1.heap.size]?=some (.cells (sK (.string ⟨#[]⟩) (.slice none 0 0) (.map none) (.map none)) 107 (0,0)):=heap_alloc_new _ _
 have hx:w2.heap[w1.heap.size]?=some (.cells (aL (Ax.aC kl) (.slice rd l.length rc) gm hm hd) 107 (0,0)):=by rw[Co];exact ir Ps rfl cR
 have L9:Below w1.heap.size w1 w2:=by
  obtain⟨_,hk⟩:=cD w1.heap.size (aL (Ax.aC kl) (.slice rd l.length rc) gm hm hd).toList 0 _ _ Ps (by rw[Array.length_toList,cR];exact Nat.le_refl 36)
  rw[Co]
  exact hk.aU ((Below.refl _ _).alloc (Nat.le_refl _) _) (by simp) (by simp)
 unfold sK at Co
 rw[←Co]
 clear Co Ps eL
 obtain⟨q1,q2,q3,q4,q5,q6,q7,q8⟩:=H1.out
 have cw:Below w.heap.size w w2:=q8.trans (L9.mono q8.size)
 have HM:Hid (nG (w2.alloc (.cells (bE (Ax.aC kl) (.slice rd l.length rc) gm hm hd (.slice none 0 0)) 109)) w.heap.size w2.heap.size kl gv 0∧iy (w2.alloc (.cells (bE (Ax.aC kl) (.slice rd l.length rc) gm hm hd (.slice none 0 0)) 109)) w2.heap.size hd [] (.slice none 0 0)):=NU (q1.below L9) q2 cu (q3.below L9) q4 (q5.below L9) q6 q7 cw.size
 have pG:Hid (Below w.heap.size w w2):=cw
 clear q1 q2 q3 q4 q5 q6 q7 q8 H1 L9 cw Oz
 go_wp2_with (refine wpList_load_row rfl _ _ rfl w1.heap.size rfl _ _ _ _ hx Tryz.underlying107 rfl (by rw[cR];kernel_rfl) ?_)
 rw[ID _ _ cR rfl]
 have e9:((aL (Ax.aC kl) (.slice rd l.length rc) gm hm hd).toList++[Value.slice none 0 0]).toArray=bE (Ax.aC kl) (.slice rd l.length rc) gm hm hd (.slice none 0 0):=uj _ _ _ _ _
 go_ret2
 refine⟨w2.heap.size,rfl, ?_, ?_,pG.out.alloc pG.out.size _⟩
 · exact HM.out.1
 · exact HM.out.2
end
/- axiomkeep.other: a shop beside another. -/
section
open Go.RowKit Go.Maps
theorem Ka(w:World)(sb eg e2:Nat)(rd:Option Addr)(rn rc:Nat)(gv:Nat→Bool)(hS:dv w sb eg (.slice rd rn rc) gv):
 Calls Tryz.prog 25 #[.pointer (some ⟨e2,0,none⟩),.pointer (some ⟨sb,0,none⟩)] w fun e w'=>∃s2,e=.returned (.pointer (some ⟨s2,0,none⟩))∧dv w' s2 e2 (.slice rd rn rc) gv∧w.heap.size≤s2∧Below w.heap.size w w':=by
 have hb:=hS
 unfold dv at hb
 have c1:=hS.cells.2.1
 have hr:w.rangeAt sb 2 (dK gv):=by
  intro j v hv
  rw[cell_of_row _ _ _ _ _ _ hb]
  unfold jh
  rw[List.getElem?_toArray,List.getElem?_append_right (by simp)]
  simpa using hv
 have ff:(dK gv).length=36:=by simp[dK]
 have J7:(Tryz.prog.info? 41).map (·.size)=some (dK gv).length:=by
  rw[ff]
  kernel_rfl
 have akC:=Tryz.underlying41
 have hsl:=lt_of_heap hb
 have HBL:Hid ((dK gv).length=36):=ff
 have lA:Hid (∀W:World,Below w.heap.size w W→W.cell? ⟨sb,1,none⟩=some (.slice rd rn rc)∧W.rangeAt sb 2 (dK gv)):=fun W hW=>⟨by rw[hW.cell hsl];exact c1,fun j v hv=>by rw[hW.cell (p:=⟨sb,2+j,none⟩) hsl];exact hr j v hv⟩
 clear hb hS
 have EL:Hid (jh e2 (.slice rd rn rc) gv=([Value.pointer (some ⟨e2,0,none⟩),.slice rd rn rc]++dK gv).toArray):=(rfl:jh e2 (.slice rd rn rc) gv=_)
 unfold dv
 generalize jh e2 (.slice rd rn rc) gv=SC at*
 generalize dK gv=BC at*
 go_enter Tryz.func25,Tryz.ntmps25
 go_wp2_with fail
 go_region_held3 (fun W=>W.cell? ⟨sb,1,none⟩=some (.slice rd rn rc)∧W.rangeAt sb 2 BC) (first | (exact lA.out _ ((Below.refl _ _).drew)) | (exact lA.out _ (Below.refl _ _)) | (exact lA.out _ (((Below.refl _ _).drew).alloc (Nat.le_refl _) _))) (fail)
 all_goals
  (have Yx:∀Z:Array Value,Z.size=38→Z.toList.take 2=[Value.pointer (some ⟨e2,0,none⟩),.slice rd rn rc]→List.foldl (fun cs x=>cs.setIfInBounds (2+x.snd) x.fst) Z BC.zipIdx=SC:=by
    intro Z hz h2
    have h9:=rr 2 BC 0 Z (by rw[HBL.out,hz];exact Nat.le_refl _)
    rw[h9,EL.out,Nat.add_zero,h2,HBL.out,List.drop_eq_nil_of_le (by rw[Array.length_toList,hz];exact Nat.le_refl _),List.append_nil]
   rw[Yx _ rfl rfl]
   go_wp2_with fail
   go_ret
   exact⟨w.heap.size,rfl,heap_alloc_new w _,Nat.le_refl _,((Below.refl _ _).alloc (Nat.le_refl _) _).drew⟩)
end
/- Two engines that go on beside one another. -/
section
open Go.RowKit Go.Maps
def Touch(w:World)(S:List Nat):Prop:=∀b,b∈S→b<w.heap.size→∃(cur:Array Value) (t:TypeId) (fz:Nat×Nat),w.heap[b]?=some (.cells cur t fz)∧(t=43∨t=109∨t=5)
theorem Touch.no{w:World}{S:List Nat}(h:Touch w S){b:Nat}{cur:Array Value}{t:TypeId}{fz:Nat×Nat}(hb:w.heap[b]?=some (.cells cur t fz))(h1:t≠43)(h2:t≠109)(h3:t≠5):¬b∈S:=by
 intro hm
 obtain⟨lN,t',Sa,e,ht⟩:=h b hm (lt_of_heap hb)
 rw[hb]at e
 simp at e
 obtain⟨_,e,_⟩:=e
 subst e
 rcases ht with h | h | h
 · exact h1 h
 · exact h2 h
 · exact h3 h
theorem nG.apart{w w':World}{B eg:Nat}{kl:List Ax.aA}{gv:Nat→Bool}{n:Nat}(h:nG w B eg kl gv n){S:List Nat}(hk:Kb S w w')(hS:Touch w S)(he:¬eg∈S)(hl:∀hd lg lv,iy w eg hd lg lv→∀b,lv.ownBlock=some b→¬b∈S):nG w' B eg kl gv n:=by
 obtain⟨pl,rd,rc,l,gm,G,hm,T,s,hd,lv,ln,lx,eb,dS,her,hG,hR,hH,hI,hT,cu,mz,xM,uX⟩:=h.at_
 have oP:lx.length=ln:=by have:=mz.1;omega
 have hHd:iy w eg hd lx lv:=⟨⟨_,_,_,_,eb⟩,cu,by rw[oP];exact aE mz (Nat.zero_le _)⟩
 refine⟨⟨pl,rd,rc,l,gm,G,hm,T,s,hd,lv,ln,lx,hk.heap eb he,dS.kept hk ?_,her,hG.kept hk ?_,hR,hH.kept hk ?_,hI,hT,cu,hk.row mz (hl hd lx lv hHd),xM,uX⟩,h.ge⟩
 · intro b cur U hb e
   obtain⟨lN,t',Sa,e2,ht⟩:=hS b hb (lt_of_heap e)
   rw[e]at e2
   simp at e2
   rw[e2.2.1]
   rcases ht with rfl | rfl | rfl<;>decide
 · intro b hb hm'
   unfold eO at hb
   rcases List.mem_cons.1 hb with rfl | hb
   · obtain⟨es,ck,e⟩:=hG.map.block
     obtain⟨lN,t',Sa,e2,ht⟩:=hS _ hm' (lt_of_heap e)
     rw[e]at e2
     cases e2
   · obtain⟨u,hu,hb⟩:=List.mem_flatMap.1 hb
     obtain⟨cur,U,e,hU⟩:=(hG.bR u hu).types hb
     refine hS.no e ?_ ?_ ?_ hm'<;>(rcases hU with rfl | rfl<;>decide)
 · intro b hb hm'
   unfold cG at hb
   rcases List.mem_cons.1 hb with rfl | hb
   · obtain⟨es,ck,e⟩:=hH.map.block
     obtain⟨lN,t',Sa,e2,ht⟩:=hS _ hm' (lt_of_heap e)
     rw[e]at e2
     cases e2
   · obtain⟨u,hu,hb⟩:=List.mem_flatMap.1 hb
     obtain⟨cur,U,e,hU⟩:=(hH.bR u hu).types hb
     refine hS.no e ?_ ?_ ?_ hm'<;>(rcases hU with rfl | rfl | rfl<;>decide)
theorem iy.same{w:World}{eg:Nat}{hd kJ:List UInt8}{lg VR:List Value}{lv vk:Value}(h:iy w eg hd lg lv)(k:iy w eg kJ VR vk):lv=vk:=by
 obtain⟨pl,rv,gm,hm,e⟩:=h.at_
 obtain⟨pl',rv',gm',hm',e'⟩:=k.at_
 rw[e]at e'
 simp only[Option.some.injEq,Obj.cells.injEq,and_true]at e'
 exact(og h.Si k.Si e').2
theorem xf{K:Nat→Int}{w w':World}{rv:Value}{kl:List Ax.aA}{gv RH:Nat→Bool}{Bx By sx ex sy ey nx ny:Nat}{hd pN:List UInt8}{Iw Kn:List Value}{AB CF:Value}{ct:ByteArray}
 (hx:ph Bx w sx ex rv kl gv gv nx)(hy:ph By w sy ey rv kl RH RH ny)(dx:iy w ex hd Iw AB)(dy:iy w ey pN Kn CF)(Cd:∀b,AB.ownBlock=some b→¬CF.ownBlock=some b)(hns:sx≠sy)(cE:ex≠ey)(kI:pE K w w' sx ex ct):
 ph By w' sy ey rv kl RH RH ny∧iy w' ey pN Kn CF∧∃abV YA,iy w' ex (iA K hd ct) abV YA∧∀b,YA.ownBlock=some b→¬CF.ownBlock=some b:=by
 obtain⟨vk,h1,h2,h3⟩:=kI hd Iw AB dx
 obtain⟨pl,rvx,gm,hm,ebx⟩:=dx.at_
 obtain⟨ply,rvy,gmy,hmy,eby⟩:=dy.at_
 have Z6:=hx.lP
 have hsy:=hy.lP
 unfold dv at Z6 hsy
 have hT:Touch w (sx::ex::AB.ownBlock.toList):=by
  intro b hb _
  simp only[List.mem_cons,Option.mem_toList]at hb
  rcases hb with rfl | rfl | hb
  · exact⟨_,_,_,Z6,.inl rfl⟩
  · exact⟨_,_,_,ebx,.inr (.inl rfl)⟩
  · obtain⟨cur,fz,e⟩:=bK dx.log b hb
    exact⟨_,_,_,e,.inr (.inr rfl)⟩
 have hey:¬ey∈sx::ex::AB.ownBlock.toList:=by
  simp only[List.mem_cons,Option.mem_toList]
  rintro(h | h | h)
  · exact fV eby Z6 (by decide) h
  · exact cE h.symm
  · obtain⟨cur,fz,e⟩:=bK dx.log ey h
    exact fV eby e (by decide) rfl
 have hly:∀b,CF.ownBlock=some b→¬b∈sx::ex::AB.ownBlock.toList:=by
  intro b hb
  obtain⟨cur,fz,e⟩:=bK dy.log b hb
  simp only[List.mem_cons,Option.mem_toList]
  rintro(h | h | h)
  · exact fV e Z6 (by decide) h
  · exact fV e ebx (by decide) h
  · exact Cd b h hb
 have adv:¬sy∈sx::ex::AB.ownBlock.toList:=by
  simp only[List.mem_cons,Option.mem_toList]
  rintro(h | h | h)
  · exact hns h.symm
  · exact fV hsy ebx (by decide) h
  · obtain⟨cur,fz,e⟩:=bK dx.log sy h
    exact fV hsy e (by decide) rfl
 refine⟨⟨?_,hy.Hu.apart h2 hT hey (fun kJ VR akF k b hb=> ?_),hy.le⟩,⟨⟨_,_,_,_,h2.heap eby hey⟩,dy.Si,h2.row dy.log hly⟩,_,vk,h1,fun b hb cw=> ?_⟩
 · unfold dv
   exact h2.heap hsy adv
 · have:=k.same dy
   subst this
   exact hly b hb
 · rcases h3 b hb with h | h
   · exact Cd b h cw
   · have:=(dy.log.lt b cw).2
     omega
end
/- Resumed, walked. -/
section
open Go.RowKit Go.Maps
structure jJ(w:World)(rv:Value)(kl:List Ax.aA)(gx gy:Nat→Bool)(Bx By sx ex sy ey nx ny:Nat)(Pe Pa:List UInt8)(wr:World):Prop where
 x:ph Bx wr sx ex rv kl gx gx nx
 y:ph By wr sy ey rv kl gy gy ny
 Wb:∃Iw AB Kn CF,iy wr ex Pe Iw AB∧iy wr ey Pa Kn CF∧∀b,AB.ownBlock=some b→¬CF.ownBlock=some b
 ns:sx≠sy
 ne:ex≠ey
 aQ:Below w.heap.size w wr
theorem jJ.below{w:World}{rv:Value}{kl:List Ax.aA}{gx gy:Nat→Bool}{Bx By sx ex sy ey nx ny:Nat}{Pe Pa:List UInt8}{wr w':World}(h:jJ w rv kl gx gy Bx By sx ex sy ey nx ny Pe Pa wr)(hb:Below wr.heap.size wr w'):jJ w rv kl gx gy Bx By sx ex sy ey nx ny Pe Pa w':=by
 obtain⟨Iw,AB,Kn,CF,h1,h2,h3⟩:=h.Wb
 exact⟨h.x.below hb,h.y.below hb,⟨Iw,AB,Kn,CF,h1.below hb,h2.below hb,h3⟩,h.ns,h.ne,h.aQ.trans (hb.mono h.aQ.size)⟩
theorem jJ.Ye{K:Nat→Int}{w:World}{rv:Value}{kl:List Ax.aA}{gx gy g2:Nat→Bool}{Bx By sx ex sy ey nx ny:Nat}{Pe Pa:List UInt8}{wr w':World}{ct:ByteArray}(h:jJ w rv kl gx gy Bx By sx ex sy ey nx ny Pe Pa wr)(h2:ph Bx w' sx ex rv kl g2 g2 (nx+1))(hb:Below w.heap.size w w')(kI:pE K wr w' sx ex ct):jJ w rv kl g2 gy Bx By sx ex sy ey (nx+1) ny (iA K Pe ct) Pa w':=by
 obtain⟨Iw,AB,Kn,CF,d1,d2,d3⟩:=h.Wb
 obtain⟨k1,k2,VR,vk,k3,k4⟩:=xf h.x h.y d1 d2 d3 h.ns h.ne kI
 exact⟨h2,k1,⟨VR,vk,Kn,CF,k3,k2,k4⟩,h.ns,h.ne,hb⟩
theorem jJ.WZ{K:Nat→Int}{w:World}{rv:Value}{kl:List Ax.aA}{gx gy g2:Nat→Bool}{Bx By sx ex sy ey nx ny:Nat}{Pe Pa:List UInt8}{wr w':World}{ct:ByteArray}(h:jJ w rv kl gx gy Bx By sx ex sy ey nx ny Pe Pa wr)(h2:ph By w' sy ey rv kl g2 g2 (ny+1))(hb:Below w.heap.size w w')(kI:pE K wr w' sy ey ct):jJ w rv kl gx g2 Bx By sx ex sy ey nx (ny+1) Pe (iA K Pa ct) w':=by
 obtain⟨Iw,AB,Kn,CF,d1,d2,d3⟩:=h.Wb
 obtain⟨k1,k2,VR,vk,k3,k4⟩:=xf h.y h.x d2 d1 (fun b h1 h2=>d3 b h2 h1) (fun e=>h.ns e.symm) (fun e=>h.ne e.symm) kI
 exact⟨k1,h2,⟨Iw,AB,VR,vk,k2,k3,fun b h1 h2=>k4 b h2 h1⟩,h.ns,h.ne,hb⟩
def gg(gv:Nat→Bool)(l:List (List Int×List Int)):Nat→Bool:=l.foldl ij gv
theorem GJ(gv:Nat→Bool)(l:List (List Int×List Int))(x:List Int×List Int):gg gv (l++[x])=ij (gg gv l) x:=by simp[gg]
theorem BN(K:Nat→Int)(w:World)(ad:Option Addr)(m c:Nat)(kl:List Ax.aA)(hR:eF w ad m c kl)(sd:Option Addr)(sn sc:Nat)(sl:List (List Int×List Int))(hS:vN w sd sn sc sl)(td:Option Addr)(tn tc:Nat)(tl:List (List Int×List Int))(hT:vN w td tn tc tl)(hs:sl.length+tl.length≤1900000)(hK:Dg.AR w K)(hU:eM w):
 Calls Tryz.prog 7 #[.slice ad m c,.slice sd sn sc,.slice td tn tc] w fun e w'=>e=.returned (.bool true)∧Below w.heap.size w w':=by
 have xM:=hT.len
 subst xM
 have ll:=hT.cap
 have hmx:tc≤9223372036854775807:=hT.max
 obtain⟨X,hX⟩:∃X,X=jt sl:=⟨_,rfl⟩
 have Zl:Hid (fX X):=by rw[hX];exact OQ sl
 have HGW:Hid (∀k,fX (gg X (tl.take k))):=fun k=>s4 _ Zl.out
 have HRX:Hid (Calls Tryz.prog 22 #[.slice ad m c,.slice sd sn sc] w fun e w1=>∃sb eg,e=.returned (.pointer (some ⟨sb,0,none⟩))∧w1.cell? ⟨sb,0,none⟩=some (.pointer (some ⟨eg,0,none⟩))∧sb<w1.heap.size∧Hid (ph w.heap.size w1 sb eg (.slice ad (min m 6) c) kl X X sl.length∧Below w.heap.size w w1)):=by
  rw[hX]
  refine(PZ K w ad m c kl hR sd sn sc sl hS (by omega) hK hU).mono ?_
  rintro e w' ⟨a,b,rfl,q1,q2⟩
  exact⟨a,b,rfl,q1.lP.cells.1,lt_of_heap q1.lP,q1,q2⟩
 have ZA:Hid (∀W,Below w.heap.size w W→Dg.AR W K∧eM W):=fun W hW=>⟨hK.below hW,Utf8Tabs_below hU hW⟩
 have sO:Hid (∀W,Below w.heap.size w W→eF W ad (min m 6) c (kl.take 6)):=fun W hW=>(hR.below hW).Zx
 have HTT:Hid (vN w td tl.length tc tl):=hT
 clear hR hS hT hK hU hX
 go_enter Tryz.func7,Tryz.ntmps7
 go_upto_region 4 with(go_at_call 22;refine HRX.out.mono ?_;rintro e w1 ⟨sx,ex,rfl,s0,s1,H1⟩)
 obtain⟨hd,Iw,AB,dx⟩:=H1.out.1.Hu.hd
 have cu:=dx.Si
 obtain⟨S,Yw⟩:∃S:ByteArray,S=⟨(Ex.body kl X++hd).toArray⟩:=⟨_,rfl⟩
 have hSs:decide ((S.size:Int)<32)=false:=by
  have:S.size=(Ex.body kl X).length+32:=by rw[Yw];show(Ex.body kl X++hd).toArray.size=_;simp[cu]
  exact decide_eq_false (by omega)
 have HE1:Hid (Calls Tryz.prog 23 #[.pointer (some ⟨ex,0,none⟩)] w1 fun e w2=>e=.returned (.string S)∧Below w1.heap.size w1 w2):=by
  rw[Yw]
  exact Ae H1.out.1.Hu Zl.out dx w1 (Below.refl _ _)
 have HIM:Hid (∀w2,Below w1.heap.size w1 w2→Calls Tryz.prog 24 #[.string S] w2 fun e w3=>∃ey,e=.returned (.tuple #[.pointer (some ⟨ey,0,none⟩),.int .i64 0])∧Hid (nG w3 w2.heap.size ey kl X 0∧iy w3 ey hd [] (.slice none 0 0)∧Below w2.heap.size w2 w3)):=by
  intro w2 cw
  rw[Yw]
  exact(FM w2 kl X Zl.out hd cu (ZA.out w2 (H1.out.2.trans (cw.mono H1.out.2.size))).2).mono (fun e w' ⟨a,b⟩=>⟨a,b⟩)
 have HOT:Hid (∀w3 ey,Below w1.heap.size w1 w3→Calls Tryz.prog 25 #[.pointer (some ⟨ey,0,none⟩),.pointer (some ⟨sx,0,none⟩)] w3 fun e w4=>∃sy,e=.returned (.pointer (some ⟨sy,0,none⟩))∧Hid (dv w4 sy ey (.slice ad (min m 6) c) X∧w3.heap.size≤sy∧Below w3.heap.size w3 w4)):=by
  intro w3 ey fH
  exact(Ka w3 sx ex ey ad (min m 6) c X (H1.out.1.lP.below fH)).mono (fun e w' ⟨a,b⟩=>⟨a,b⟩)
 have HEX:Hid (∀W B eg gv n kJ lg lv,nG W B eg kl gv n→fX gv→iy W eg kJ lg lv→Calls Tryz.prog 23 #[.pointer (some ⟨eg,0,none⟩)] W fun e w'=>e=.returned (.string ⟨(Ex.body kl gv++kJ).toArray⟩)∧Below W.heap.size W w'):=fun W B eg gv n kJ lg lv h1 h2 h3=>Ae h1 h2 h3 W (Below.refl _ _)
 have HDX:Hid (iy w1 ex hd Iw AB):=dx
 have YB:Hid (S=⟨(Ex.body kl X++hd).toArray⟩):=Yw
 clear dx Yw HRX
 go_upto_region 9 with(first | (go_at_call 23;refine HE1.out.mono ?_;rintro e w2 ⟨rfl,cw⟩) | (go_at_call 24;refine(HIM.out w2 cw).mono ?_;rintro e w3 ⟨ey,rfl,H3⟩) | (go_at_call 25;refine(HOT.out w3 ey (cw.trans (H3.out.2.2.mono cw.size))).mono ?_;rintro e w4 ⟨sy,rfl,H4⟩))
 have He:Hid (jJ w (.slice ad (min m 6) c) kl X X w.heap.size w2.heap.size sx ex sy ey sl.length 0 hd hd w4):=by
  obtain⟨q1,q2,q3⟩:=H3.out
  obtain⟨r1,r2,r3⟩:=H4.out
  have Oy:Below w2.heap.size w2 w4:=q3.trans (r3.mono q3.size)
  have UG:Below w1.heap.size w1 w4:=cw.trans (Oy.mono cw.size)
  have hex:ex<w1.heap.size:=by
   obtain⟨_,_,_,_,e⟩:=HDX.out.at_
   exact lt_of_heap e
  have yH:=cw.size
  have hs3:=q3.size
  have hey:=q1.ge
  refine⟨H1.out.1.below UG,⟨r1,q1.below r3,by omega⟩,⟨Iw,AB,[],.slice none 0 0,HDX.out.below UG,q2.below r3,fun b _ h=>by cases h⟩,by omega,by omega,H1.out.2.trans (UG.mono H1.out.2.size)⟩
 have HWB:Hid (w.heap.size≤w2.heap.size):=Nat.le_trans H1.out.2.size cw.size
 generalize w2.heap.size=By at He HWB
 have Bz:Hid (Calls Tryz.prog 23 #[.pointer (some ⟨ey,0,none⟩)] w4 fun e w5=>e=.returned (.string S)∧Hid (jJ w (.slice ad (min m 6) c) kl X X w.heap.size By sx ex sy ey sl.length 0 hd hd w5)):=by
  obtain⟨_,_,Kn,CF,_,d2,_⟩:=He.out.Wb
  rw[YB.out]
  refine(HEX.out w4 _ ey X _ hd Kn CF He.out.y.Hu Zl.out d2).mono ?_
  rintro e w5 ⟨rfl,hb⟩
  exact⟨rfl,He.out.below hb⟩
 have HAL:Hid (∀W,jJ w (.slice ad (min m 6) c) kl X X w.heap.size By sx ex sy ey sl.length 0 hd hd W→Calls Tryz.prog 26 #[.pointer (some ⟨sx,0,none⟩),.pointer (some ⟨sy,0,none⟩)] W fun e w'=>e=.returned (.bool true)∧Hid (jJ w (.slice ad (min m 6) c) kl X X w.heap.size By sx ex sy ey sl.length 0 hd hd w')):=by
  intro W hW
  refine(Jz W _ sx ex _ _ sy ey _ kl X _ _ hW.x.lP hW.x.Hu hW.y.lP hW.y.Hu Zl.out (ZA.out W hW.aQ).2).mono ?_
  rintro e w' ⟨rfl,hb⟩
  exact⟨rfl,hW.below hb⟩
 clear HE1 HIM HOT H3 H4 cw HDX H1 s0 s1 He
 go_wp2_with (first | (go_at_call 23;refine Bz.out.mono ?_;rintro e w5 ⟨rfl,H5⟩) | (go_at_call 26;refine(HAL.out _ H5.out).mono ?_;rintro e w6 ⟨rfl,H6⟩))
 have HTK:Hid (jJ w (.slice ad (min m 6) c) kl (gg X (tl.take 0)) (gg X (tl.take 0)) w.heap.size By sx ex sy ey (sl.length+0) 0 hd hd w6):=H6.out
 clear Bz HAL H5 H6 YB
 go_loopw [14] (fun i wr=>∃(k:Nat) (kJ:List UInt8),k≤tl.length∧i=.int .i64 k∧jJ w (.slice ad (min m 6) c) kl (gg X (tl.take k)) (gg X (tl.take k)) w.heap.size By sx ex sy ey (sl.length+k) k kJ kJ wr) (fun i _=>tl.length-(intOf i).toNat)
 case atStart=>exact⟨0,hd,Nat.zero_le _,rfl,HTK.out⟩
 case round=>
  obtain⟨k,kJ,hk,rfl,hTG⟩:=hrel
  clear HTK
  have He:Hid (jJ w (.slice ad (min m 6) c) kl (gg X (tl.take k)) (gg X (tl.take k)) w.heap.size By sx ex sy ey (sl.length+k) k kJ kJ wr):=hTG
  by_cases aG:k<tl.length
  · have Ez:decide ((k:Int)<(tl.length:Int))=true:=decide_eq_true (by omega)
    obtain⟨g,o,AK,a1,n1,c1,a2,n2,c2,q1,q2,i1,i2⟩:=HTT.out.at_ k aG
    subst AK
    have eX:Hid (gg X (tl.take (k+1))=ij (gg X (tl.take k)) tl[k]):=by
     have e0:tl.take (k+1)=tl.take k++[tl[k]]:=by rw[List.take_add_one,List.getElem?_eq_getElem aG];rfl
     have e1:gg X (tl.take (k+1))=ij (gg X (tl.take k)) tl[k]:=by rw[e0,GJ]
     exact e1
    have lA:Hid (∀W,Below w.heap.size w W→W.cell? ⟨g,o+k*2,none⟩=some (.slice a1 n1 c1)∧W.cell? ⟨g,o+k*2+1,none⟩=some (.slice a2 n2 c2)∧g<W.heap.size):=fun W hW=>⟨bl hW q1,bl hW q2,Nat.lt_of_lt_of_le (block_lt_of_cell q1) hW.size⟩
    have Ld:Hid (∀W B sb eg G n,w.heap.size≤B→n≤2000000→ph B W sb eg (.slice ad (min m 6) c) kl G G n→Below w.heap.size w W→Calls Tryz.prog 15 #[.pointer (some ⟨sb,0,none⟩),.agg #[.slice a1 n1 c1,.slice a2 n2 c2]] W fun e w'=>e=.returned (.bool true)∧ph B w' sb eg (.slice ad (min m 6) c) kl (ij G tl[k]) (ij G tl[k]) (n+1)∧Below w.heap.size w w'∧pE K W w' sb eg ⟨(Rc.Lo (idxs tl[k].1) (idxs tl[k].2)).toArray⟩):=by
     intro W B sb eg G n hB hn hW hb
     have sM:∀W',Below B W W'→Below w.heap.size w W':=fun W' h=>hb.trans (h.mono hB)
     refine(zv K B W sb eg _ kl G n hW hn (fun W' h=>ZA.out W' (sM W' h)) a1 n1 c1 _ (fun W' h _=>i1.below (sM W' h)) (fun g o e hl=>by have:=i1.lt g o e hl;have:=hW.le;omega) a2 n2 c2 _ (fun W' h _=>i2.below (sM W' h)) (fun g o e hl=>by have:=i2.lt g o e hl;have:=hW.le;omega)).mono ?_
     rintro e w' ⟨rfl,r1,r2,_,r4⟩
     exact⟨rfl,r1,sM w' r2,r4⟩
    have Jt:Hid (Calls Tryz.prog 15 #[.pointer (some ⟨sx,0,none⟩),.agg #[.slice a1 n1 c1,.slice a2 n2 c2]] wr fun e w7=>e=.returned (.bool true)∧w7.cell? ⟨g,o+k*2,none⟩=some (.slice a1 n1 c1)∧w7.cell? ⟨g,o+k*2+1,none⟩=some (.slice a2 n2 c2)∧g<w7.heap.size∧Hid (jJ w (.slice ad (min m 6) c) kl (gg X (tl.take (k+1))) (gg X (tl.take k)) w.heap.size By sx ex sy ey (sl.length+(k+1)) k (iA K kJ ⟨(Rc.Lo (idxs tl[k].1) (idxs tl[k].2)).toArray⟩) kJ w7)):=by
     refine(Ld.out wr _ sx ex _ _ (Nat.le_refl _) (by omega) He.out.x He.out.aQ).mono ?_
     rintro e w7 ⟨rfl,r1,r2,r3⟩
     obtain⟨y1,y2,y3⟩:=lA.out w7 r2
     refine⟨rfl,y1,y2,y3, ?_⟩
     rw[eX.out]
     exact He.out.Ye r1 r2 r3
    have SE:Hid (∀w7,jJ w (.slice ad (min m 6) c) kl (gg X (tl.take (k+1))) (gg X (tl.take k)) w.heap.size By sx ex sy ey (sl.length+(k+1)) k (iA K kJ ⟨(Rc.Lo (idxs tl[k].1) (idxs tl[k].2)).toArray⟩) kJ w7→Calls Tryz.prog 15 #[.pointer (some ⟨sy,0,none⟩),.agg #[.slice a1 n1 c1,.slice a2 n2 c2]] w7 fun e w8=>e=.returned (.bool true)∧Hid (jJ w (.slice ad (min m 6) c) kl (gg X (tl.take (k+1))) (gg X (tl.take (k+1))) w.heap.size By sx ex sy ey (sl.length+(k+1)) (k+1) (iA K kJ ⟨(Rc.Lo (idxs tl[k].1) (idxs tl[k].2)).toArray⟩) (iA K kJ ⟨(Rc.Lo (idxs tl[k].1) (idxs tl[k].2)).toArray⟩) w8)):=by
     intro w7 h7
     refine(Ld.out w7 _ sy ey _ _ HWB.out (by omega) h7.y h7.aQ).mono ?_
     rintro e w8 ⟨rfl,r1,r2,r3⟩
     have h8:=h7.WZ r1 r2 r3
     rw[←eX.out]at h8
     exact⟨rfl,h8⟩
    obtain⟨y1,y2,y3⟩:=lA.out wr hTG.aQ
    generalize iA K kJ ⟨(Rc.Lo (idxs tl[k].1) (idxs tl[k].2)).toArray⟩=pN at Jt SE
    clear hTG He Ld lA q1 q2 i1 i2
    go_wp2_with (go_at_call 15;first | (refine Jt.out.mono ?_;rintro e w7 ⟨rfl,z1,z2,z3,H7⟩;clear Jt) | (refine(SE.out w7 H7.out).mono ?_;rintro e w8 ⟨rfl,H8⟩))
    go_roundw
    case rel=>exact⟨k+1,pN,aG,by go_num,H8.out⟩
    case measure=>simp[intOf];omega
  · have Ez:decide ((k:Int)<(tl.length:Int))=false:=decide_eq_false (by omega)
    have hg:=HGW.out k
    generalize gg X (tl.take k)=Y at He hg
    obtain⟨U,hUd⟩:∃U:ByteArray,U=⟨(Ex.body kl Y++kJ).toArray⟩:=⟨_,rfl⟩
    have HU:Hid (U=⟨(Ex.body kl Y++kJ).toArray⟩):=hUd
    have HGY:Hid (fX Y):=hg
    have HX1:Hid (∀W,jJ w (.slice ad (min m 6) c) kl Y Y w.heap.size By sx ex sy ey (sl.length+k) k kJ kJ W→Calls Tryz.prog 23 #[.pointer (some ⟨ex,0,none⟩)] W fun e w'=>e=.returned (.string U)∧w'.cell? ⟨sy,0,none⟩=some (.pointer (some ⟨ey,0,none⟩))∧sy<w'.heap.size∧Hid (jJ w (.slice ad (min m 6) c) kl Y Y w.heap.size By sx ex sy ey (sl.length+k) k kJ kJ w')):=by
     intro W hW
     obtain⟨Iw,AB,_,_,d1,_,_⟩:=hW.Wb
     rw[HU.out]
     refine(HEX.out W _ ex Y _ kJ Iw AB hW.x.Hu HGY.out d1).mono ?_
     rintro e w' ⟨rfl,hb⟩
     have h9:=hW.below hb
     exact⟨rfl,h9.y.lP.cells.1,lt_of_heap h9.y.lP,h9⟩
    have HX2:Hid (∀W,jJ w (.slice ad (min m 6) c) kl Y Y w.heap.size By sx ex sy ey (sl.length+k) k kJ kJ W→Calls Tryz.prog 23 #[.pointer (some ⟨ey,0,none⟩)] W fun e w'=>e=.returned (.string U)∧Hid (jJ w (.slice ad (min m 6) c) kl Y Y w.heap.size By sx ex sy ey (sl.length+k) k kJ kJ w')):=by
     intro W hW
     obtain⟨_,_,Kn,CF,_,d2,_⟩:=hW.Wb
     rw[HU.out]
     refine(HEX.out W _ ey Y _ kJ Kn CF hW.y.Hu HGY.out d2).mono ?_
     rintro e w' ⟨rfl,hb⟩
     exact⟨rfl,hW.below hb⟩
    have HRI:Hid (∀W sb eg B n,jJ w (.slice ad (min m 6) c) kl Y Y w.heap.size By sx ex sy ey (sl.length+k) k kJ kJ W→ph B W sb eg (.slice ad (min m 6) c) kl Y Y n→Calls Tryz.prog 14 #[.pointer (some ⟨sb,0,none⟩)] W fun e w'=>e=.returned (.bool true)∧Hid (jJ w (.slice ad (min m 6) c) kl Y Y w.heap.size By sx ex sy ey (sl.length+k) k kJ kJ w')):=by
     intro W sb eg B n hW sL
     refine(JJ W B sb eg ad (min m 6) c kl Y n sL.lP (sO.out W hW.aQ) sL.Hu HGY.out (ZA.out W hW.aQ).2).mono ?_
     rintro e w' ⟨rfl,hb⟩
     exact⟨rfl,hW.below hb⟩
    have t1:=He.out.x.lP.cells.1
    have t2:=lt_of_heap He.out.x.lP
    clear hTG hg hUd HEX HGW
    go_wp2_with (first | (go_at_call 23;first | (refine(HX1.out _ He.out).mono ?_;rintro e w7 ⟨rfl,z1,z2,H7⟩;clear HX1) | (refine(HX2.out _ H7.out).mono ?_;rintro e w8 ⟨rfl,H8⟩)) | (go_at_call 14;first | (refine(HRI.out w8 sx ex _ _ H8.out H8.out.x).mono ?_;rintro e w9 ⟨rfl,H9⟩;clear H8) | (refine(HRI.out w9 sy ey _ _ H9.out H9.out.y).mono ?_;rintro e wz ⟨rfl,HZ⟩)))
    go_ret
    exact⟨rfl,HZ.out.aQ⟩
end
end Go.Proofs.YtdmicblafmhflaaGreatDoor

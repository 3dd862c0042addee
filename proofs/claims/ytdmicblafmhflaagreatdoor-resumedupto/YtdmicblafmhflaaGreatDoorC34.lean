/- Engine.Ask. -/
import Derived.Test.YtdmicblafmhflaaGreatDoorC33
import Derived.Deep.MidRow
import Derived.OwnWalk
set_option linter.unusedSimpArgs false
set_option linter.unusedVariables false
set_option maxHeartbeats 4000000
set_option maxRecDepth 100000
namespace Go.Proofs.YtdmicblafmhflaaGreatDoor
section
open Go.RowKit Go.Maps
theorem vT(names:List ByteArray):Tb.fJ names=#[.string (Tb.dZ names 0),.string (Tb.dZ names 1),.string (Tb.dZ names 2)]:=rfl
structure TM(w w':World):Prop where
 cP:w'.heap[w.heap.size+1]?=some (.cells #[.bool false,.bool false,.int .i64 0] 52 (0,0))
 c0:w'.cell? ⟨w.heap.size+1,0,none⟩=some (.bool false)
 c1:w'.cell? ⟨w.heap.size+1,1,none⟩=some (.bool false)
 c2:w'.cell? ⟨w.heap.size+1,2,none⟩=some (.int .i64 0)
 fz:∀o,w'.frozen? ⟨w.heap.size+1,o,none⟩=false
theorem Yz{w w2 w':World}(h:w2.heap[w.heap.size+1]?=some (.cells #[.bool false,.bool false,.int .i64 0] 52 (0,0)))(hb:Below w2.heap.size w2 w'):TM w w':=by
 have h2:w'.heap[w.heap.size+1]?=some (.cells #[.bool false,.bool false,.int .i64 0] 52 (0,0)):=by rw[hb.block _ (lt_of_heap h)];exact h
 exact⟨h2,by rw[cell_of_row _ _ _ _ _ _ h2];rfl,by rw[cell_of_row _ _ _ _ _ _ h2];rfl,by rw[cell_of_row _ _ _ _ _ _ h2];rfl,fun o=>by simp[World.frozen?,h2]⟩
theorem QJ(w:World)(eg gm hm:Nat)(G:List GT)(T:List HT)(s:En.dH En.b7)(t:GT)(u:HT)(p:ByteArray)(names:List ByteArray)(av:Value)(qD:w.cell? ⟨eg,2,none⟩=some (.map (some gm)))(qo:w.cell? ⟨eg,3,none⟩=some (.map (some hm)))
 (hG:kY w gm G)(hH:pe w hm T s)(ht:t∈G)(hu:u∈T)(htp:t.nm=p)(hup:u.nm=p)(hp:p.size≤1000000)(x7:t.L.length≤999999)(JP:u.L.length≤999999)
 (hv:w.ownsRow 0 9 1 av names.length (strCells names))(hlen:names.length=u.pl)(h3:names.length≤3)(hn:∀a,a∈names→Ax.lL a=true)(hs:∀a,a∈names→a.size≤1000)(hT:eM w):
 Calls Tryz.prog 21 #[.pointer (some ⟨eg,0,none⟩),.agg #[.string p,av]] w fun e w'=>e=.returned (.tuple #[.agg #[.bool (Tb.jT t.L (Tb.dw names)),.bool (Tb.jT u.L (Tb.dw names)),.int .i64 (Tb.pR u.L u.C (Tb.dw names):Nat)],.int .i64 0])∧Below w.heap.size w w':=by
 obtain⟨ad,ac,pJ⟩:=aj hv
 subst pJ
 obtain⟨w0,db⟩:∃w0,w0=(w.alloc (.cells #[.string p,.slice ad names.length ac] 48)).alloc (.cells #[.bool false,.bool false,.int .i64 0] 52):=⟨_,rfl⟩
 have bU:Below w.heap.size w w0:=by rw[db];exact((Below.refl _ _).alloc (Nat.le_refl _) _).alloc (by simp) _
 have mJ:w0.heap[w.heap.size]?=some (.cells #[.string p,.slice ad names.length ac] 48 (0,0)):=by rw[db,Below.heap_alloc _ _ _ (by simp)];exact heap_alloc_new w _
 have ft:w0.heap[w.heap.size+1]?=some (.cells #[.bool false,.bool false,.int .i64 0] 52 (0,0)):=by rw[db];exact pM w _ _
 have t0:w0.cell? ⟨w.heap.size,0,none⟩=some (.string p):=by rw[cell_of_row _ _ _ _ _ _ mJ];rfl
 have t1:w0.cell? ⟨w.heap.size,1,none⟩=some (.slice ad names.length ac):=by rw[cell_of_row _ _ _ _ _ _ mJ];rfl
 have Y9:∀W:World,Below w.heap.size w W→(Instr.lookup 102 (.map (some gm)) (.string p) false).run Tryz.prog W=.ok (.pointer (some ⟨t.g,0,none⟩)) W:=fun W hW=>(hG.below hW).map.look (by rw[←htp];exact gM hG.names ht) hp Tryz.underlying102 (Tryz.zeroValue122 W)
 have UO:Ax.look (T.map HT.pk) p=some u.g:=by rw[←hup];exact oG hH.names hu
 have W9:∀W:World,Below w.heap.size w W→(Instr.lookup 103 (.map (some hm)) (.string p) false).run Tryz.prog W=.ok (.pointer (some ⟨u.g,0,none⟩)) W:=fun W hW=>(hH.below hW).map.look UO hp Tryz.underlying103 (Tryz.zeroValue97 W)
 have Xd:=(hH.bR u hu).nW
 have V2:=Dh w0 eg hm u.g u.pl (T.map HT.pk) p names _ (by rw[bU.cell (block_lt_of_cell qo)];exact qo) (hH.map.below bU) UO hp (Xd.below bU).kz.2.2.1 (ah hv bU) hlen h3 hn hs (Utf8Tabs_below hT bU)
 rw[vT]at V2
 have QK:Tb.dw names=[Tb.dZ names 0,Tb.dZ names 1,Tb.dZ names 2]:=rfl
 rw[QK]
 generalize Tb.dZ names 0=x0 at V2 ⊢
 generalize Tb.dZ names 1=x1 at V2 ⊢
 generalize Tb.dZ names 2=x2 at V2 ⊢
 have HLG:Hid (∀W:World,Below w.heap.size w W→(Instr.lookup 102 (.map (some gm)) (.string p) false).run Tryz.prog W=.ok (.pointer (some ⟨t.g,0,none⟩)) W):=Y9
 have HLH:Hid (∀W:World,Below w.heap.size w W→(Instr.lookup 103 (.map (some hm)) (.string p) false).run Tryz.prog W=.ok (.pointer (some ⟨u.g,0,none⟩)) W):=W9
 have HGA:Hid (∀W,Below w.heap.size w W→Calls Tryz.prog 42 #[.pointer (some ⟨t.g,0,none⟩),.agg #[.string x0,.string x1,.string x2]] W fun e w'=>e=.returned (.bool (Tb.jT t.L [x0,x1,x2]))∧Below W.heap.size W w'):=fun W hW=>Bt W t.g _ _ _ _ _ _ _ x0 x1 x2 ((hG.bR t ht).below hW) x7
 have HHA:Hid (∀W,Below w.heap.size w W→Calls Tryz.prog 42 #[.pointer (some ⟨u.g,0,none⟩),.agg #[.string x0,.string x1,.string x2]] W fun e w'=>e=.returned (.bool (Tb.jT u.L [x0,x1,x2]))∧Below W.heap.size W w'):=fun W hW=>Bt W u.g _ _ _ _ _ _ _ x0 x1 x2 (Xd.below hW) JP
 have Hj:Hid (∀W,Below w.heap.size w W→Calls Tryz.prog 43 #[.pointer (some ⟨u.g,0,none⟩),.agg #[.string x0,.string x1,.string x2]] W fun e w'=>e=.returned (.int .i64 (Tb.pR u.L u.C [x0,x1,x2]:Nat))∧Below W.heap.size W w'):=fun W hW=>Ar W u.g _ _ _ _ _ _ _ _ x0 x1 x2 ((hH.bR u hu).below hW) JP
 generalize Tb.jT t.L [x0,x1,x2]=b0 at HGA ⊢
 generalize Tb.jT u.L [x0,x1,x2]=b1 at HHA ⊢
 generalize Tb.pR u.L u.C [x0,x1,x2]=n1 at Hj ⊢
 have e2:∀W:World,Below w.heap.size w W→W.cell? ⟨eg,2,none⟩=some (.map (some gm)):=fun W hW=>by rw[hW.cell (block_lt_of_cell qD)];exact qD
 have e3:∀W:World,Below w.heap.size w W→W.cell? ⟨eg,3,none⟩=some (.map (some hm)):=fun W hW=>by rw[hW.cell (block_lt_of_cell qo)];exact qo
 have Gj:Hid (Calls Tryz.prog 41 #[.pointer (some ⟨eg,0,none⟩),.agg #[.string p,.slice ad names.length ac]] w0 fun e w1=>e=.returned (.tuple #[.agg #[.string x0,.string x1,.string x2],.bool true])∧Hid (Below w0.heap.size w0 w1)):=V2.mono (fun e w1 ⟨a,b⟩=>⟨a,b⟩)
 have I4:=block_lt_of_cell qD
 have lX:t.g<w.heap.size:=lt_of_heap (bW.cP (hG.bR t ht))
 have hug:u.g<w.heap.size:=lt_of_heap Xd.cP
 have hgu:t.g≠u.g:=fun e=>by
  have h7:=bW.cP (hG.bR t ht)
  have h8:=Xd.cP
  rw[e,h8]at h7
  simp at h7
 have PE:Hid (Below w.heap.size w w0):=bU
 have HG1:Hid (w0.heap[w.heap.size+1]?=some (.cells #[.bool false,.bool false,.int .i64 0] 52 (0,0))):=ft
 have Bz:Hid _:=e2
 have Sg:Hid _:=e3
 generalize t.g=tg at*
 generalize u.g=ug at*
 clear Y9 W9 QK V2 hlen htp hup hG hH ht hu Xd UO hv hn hs hT qD qo x7 JP mJ ft bU h3 e2 e3
 go_enter Tryz.func21,Tryz.ntmps21
 go_wp2_with fail
 rw[←db]
 clear db
 refine Gj.out.mono ?_
 rintro e w1 ⟨rfl,lh⟩
 go_wp2_with fail
 have bq:=lh.out
 have fl:Below w.heap.size w w1:=PE.out.trans (bq.mono PE.out.size)
 obtain⟨w2,Co⟩:∃w2,w2=w1.alloc (.cells #[.string x0,.string x1,.string x2] 119):=⟨_,rfl⟩
 have cw:Below w.heap.size w w2:=by rw[Co];exact fl.alloc fl.size _
 have Tq:Below w0.heap.size w0 w2:=by rw[Co];exact bq.alloc bq.size _
 have Z4:w2.heap[w1.heap.size]?=some (.cells #[.string x0,.string x1,.string x2] 119 (0,0)):=by rw[Co];exact heap_alloc_new w1 _
 have r0:w2.cell? ⟨w1.heap.size,0,none⟩=some (.string x0):=by rw[cell_of_row _ _ _ _ _ _ Z4];rfl
 have r1:w2.cell? ⟨w1.heap.size,1,none⟩=some (.string x1):=by rw[cell_of_row _ _ _ _ _ _ Z4];rfl
 have r2:w2.cell? ⟨w1.heap.size,2,none⟩=some (.string x2):=by rw[cell_of_row _ _ _ _ _ _ Z4];rfl
 have p0:w2.cell? ⟨w.heap.size,0,none⟩=some (.string p):=by rw[Tq.cell (block_lt_of_cell t0)];exact t0
 have O9:Hid (w2.heap[w.heap.size+1]?=some (.cells #[.bool false,.bool false,.int .i64 0] 52 (0,0))):=by
  have:=HG1.out
  rw[←Tq.block _ (lt_of_heap this)]at this
  exact this
 have c2:=Bz.out w2 cw
 have c3:=Sg.out w2 cw
 have l1:=HLG.out w2.drew cw.drew
 have l2:=HLH.out w2.drew cw.drew
 have pG:Hid (Below w.heap.size w w2):=cw
 rw[←Co]
 have Zs:w.heap.size+1<w1.heap.size:=by
  have h9:=lt_of_heap HG1.out
  have h8:=bq.size
  omega
 have Vn:w1.heap.size≠w.heap.size+1:=by omega
 have ajh:w.heap.size+1≠w1.heap.size:=by omega
 generalize w1.heap.size=rb at*
 clear Co bq fl Tq Z4 t0 t1 cw lh Gj
 obtain⟨Zd,hbt,ZT⟩:∃f:Nat→Bool,Hid (f tg=b0)∧Hid (f ug=b1):=⟨fun g=>if g=tg then b0 else b1,(if_pos rfl:(if tg=tg then b0 else b1)=b0),(if_neg (fun e=>hgu e.symm):(if ug=tg then b0 else b1)=b1)⟩
 have HAS:Hid (∀W g,(g=tg∨g=ug)→Below w2.heap.size w2 W→Calls Tryz.prog 42 #[.pointer (some ⟨g,0,none⟩),.agg #[.string x0,.string x1,.string x2]] W fun e w'=>e=.returned (.bool (Zd g))∧Below w2.heap.size w2 w'∧w'.cell? ⟨rb,0,none⟩=some (.string x0)∧w'.cell? ⟨rb,1,none⟩=some (.string x1)∧w'.cell? ⟨rb,2,none⟩=some (.string x2)∧TM w w'):=by
  intro W g hg hW
  have hh:Calls Tryz.prog 42 #[.pointer (some ⟨g,0,none⟩),.agg #[.string x0,.string x1,.string x2]] W fun e w'=>e=.returned (.bool (Zd g))∧Below W.heap.size W w':=by
   rcases hg with rfl | rfl
   · rw[hbt.out];exact HGA.out W (pG.out.trans (hW.mono pG.out.size))
   · rw[ZT.out];exact HHA.out W (pG.out.trans (hW.mono pG.out.size))
  refine hh.mono ?_
  rintro e w' ⟨rfl,hb⟩
  have jR:Below w2.heap.size w2 w':=hW.trans (hb.mono hW.size)
  exact⟨rfl,jR,by rw[jR.cell (block_lt_of_cell r0)];exact r0,by rw[jR.cell (block_lt_of_cell r1)];exact r1,by rw[jR.cell (block_lt_of_cell r2)];exact r2,Yz O9.out jR⟩
 have ab8:Hid (∀W,Below w2.heap.size w2 W→Calls Tryz.prog 43 #[.pointer (some ⟨ug,0,none⟩),.agg #[.string x0,.string x1,.string x2]] W fun e w'=>e=.returned (.int .i64 (n1:Nat))∧Below w2.heap.size w2 w'∧w'.cell? ⟨rb,0,none⟩=some (.string x0)∧w'.cell? ⟨rb,1,none⟩=some (.string x1)∧w'.cell? ⟨rb,2,none⟩=some (.string x2)∧TM w w'):=by
  intro W hW
  refine(Hj.out W (pG.out.trans (hW.mono pG.out.size))).mono ?_
  rintro e w' ⟨rfl,hb⟩
  have jR:Below w2.heap.size w2 w':=hW.trans (hb.mono hW.size)
  exact⟨rfl,jR,by rw[jR.cell (block_lt_of_cell r0)];exact r0,by rw[jR.cell (block_lt_of_cell r1)];exact r1,by rw[jR.cell (block_lt_of_cell r2)];exact r2,Yz O9.out jR⟩
 have xS:Hid (Below w2.heap.size w2 w2.drew.drew):=(Below.refl _ _).drew.drew
 clear HGA HHA Hj
 go_region
 go_wp2_with fail
 clear hgu Zs c2 c3 l1 l2 p0 HLG HLH Bz Sg PE HG1
 go_region_held3 (fun w'=>w'.cell? ⟨rb,0,none⟩=some (.string x0)∧w'.cell? ⟨rb,1,none⟩=some (.string x1)∧w'.cell? ⟨rb,2,none⟩=some (.string x2)) (go_keep) (first | (go_at_call 42;refine(HAS.out _ _ (by first | exact Or.inl rfl | exact Or.inr rfl) (by first | exact(Below.refl _ _).drew.drew | assumption)).mono ?_;rintro e wn ⟨rfl,Ta,k0,k1,k2,kT⟩;have kc0:=kT.c0;have kc1:=kT.c1;have kc2:=kT.c2;have kf0:=kT.fz 0;have kf1:=kT.fz 1;have kf2:=kT.fz 2) | (go_at_call 43;refine(ab8.out _ (by first | exact(Below.refl _ _).drew.drew | assumption)).mono ?_;rintro e wn ⟨rfl,Ta,k0,k1,k2,kT⟩;have kc0:=kT.c0;have kc1:=kT.c1;have kc2:=kT.c2;have kf0:=kT.fz 0;have kf1:=kT.fz 1;have kf2:=kT.fz 2))
 all_goals
  have kE:Below w.heap.size w wn:=pG.out.trans (Ta.mono pG.out.size)
  go_wp2_with fail
  refine bodyPost_ret (v:=.tuple #[.agg #[.bool (Zd tg),.bool (Zd ug),.int .i64 (n1:Nat)],.int .i64 0]) ?_ rfl ⟨by rw[hbt.out,ZT.out],((kE.setCell (p:=⟨w.heap.size+1,0,none⟩) (by simp) _).setCell (p:=⟨w.heap.size+1,1,none⟩) (by simp) _).setCell (p:=⟨w.heap.size+1,2,none⟩) (by simp) _⟩
  refine Eq.trans (dn rfl _ _ _ _ _ _ _ rfl (re kT.cP _ _ _) Tryz.underlying52 rfl (by kernel_rfl)) ?_
  rfl
end
/- An engine as it lies; what New's steps keep. -/
section
open Go.RowKit Go.Maps
def bE(pl:ByteArray)(rv:Value)(gm hm:Nat)(hd:List UInt8)(lv:Value):Array Value:=([Value.string pl,rv,.map (some gm),.map (some hm)]++Rc.bP hd++[lv]).toArray
structure nG(w:World)(B eg:Nat)(kl:List Ax.aA)(gv:Nat→Bool)(n:Nat):Prop where
 at_:∃pl rd rc l gm G hm T s hd lv ln lx,w.heap[eg]?=some (.cells (bE pl (.slice rd (List.length l) rc) gm hm hd lv) 109 (0,0))∧
  aX w rd rc l∧(l.map MR.ay).map Ax.lj=Ax.gR kl∧kY w gm G∧gh G gv∧pe w hm T s∧En.Inv (En.sR (En.af kl)) (En.gF gv) s s.found.length∧(∀p,p∈T.map gX↔p∈jW)∧
  hd.length=32∧w.ownsRow B 5 1 lv ln lx∧ln≤1000*n∧pl=Ax.aC kl
 ge:B≤eg
theorem fV{w:World}{a b:Nat}{x y:Array Value}{s t:TypeId}{f g:Nat×Nat}(ha:w.heap[a]?=some (.cells x s f))(hb:w.heap[b]?=some (.cells y t g))(h:s≠t):a≠b:=fun e=>by
 rw[e,hb]at ha
 simp at ha
 exact h ha.2.1.symm
theorem kY.kr{w:World}{gm:Nat}{G:List GT}(h:kY w gm G){x:Nat}{Z:Array Value}{t:TypeId}{f:Nat×Nat}(hx:w.heap[x]?=some (.cells Z t f))(h1:t≠125)(h2:t≠119):∀b,b∈eO gm G→¬b∈[x]:=by
 intro b hb e
 simp only[List.mem_cons,List.not_mem_nil,or_false]at e
 subst e
 unfold eO at hb
 rcases List.mem_cons.1 hb with rfl | hb
 · obtain⟨es,ck,e⟩:=h.map.block
   rw[e]at hx
   cases hx
 · obtain⟨u,hu,hb⟩:=List.mem_flatMap.1 hb
   obtain⟨cur,T,e,hT⟩:=(h.bR u hu).types hb
   rw[e]at hx
   simp at hx
   rcases hT with rfl | rfl
   · exact h1 hx.2.1.symm
   · exact h2 hx.2.1.symm
structure NI(w1:World)(g:Nat)(pl:ByteArray)(rv:Value)(nf:List Pd.Pr)(b:Option Nat)(q:Option (Option Addr×List Pd.Pr×Nat))(m:Option (Nat×List GT))(W:World):Prop where
 aQ:Below w1.heap.size w1 W
 gl:g<w1.heap.size
 c0:W.cell? ⟨g,0,none⟩=some (.string pl)
 c1:W.cell? ⟨g,1,none⟩=some rv
 cP:∀x,b=some x→w1.heap.size≤x∧∃Z,W.heap[x]?=some (.cells Z 107 (0,0))∧Z.size=36
 row:∀qd Q qc,q=some (qd,Q,qc)→W.ownsRow 0 112 2 (.slice qd Q.length qc) Q.length (aF Q)∧Pd.vp Q∧∀p,p∈Q↔p∈nf
 NT:∀gm G,m=some (gm,G)→kY W gm G∧gh G (fun _=>false)
theorem NI.below{w1 W w':World}{g:Nat}{pl:ByteArray}{rv:Value}{nf:List Pd.Pr}{b:Option Nat}{q:Option (Option Addr×List Pd.Pr×Nat)}{m:Option (Nat×List GT)}(h:NI w1 g pl rv nf b q m W)(hb:Below W.heap.size W w'):NI w1 g pl rv nf b q m w':=by
 have mO:g<W.heap.size:=Nat.lt_of_lt_of_le h.gl h.aQ.size
 refine⟨h.aQ.trans (hb.mono h.aQ.size),h.gl,by rw[hb.cell mO];exact h.c0,by rw[hb.cell mO];exact h.c1, ?_, ?_, ?_⟩
 · intro x hx
   obtain⟨h1,Z,h2,h3⟩:=h.cP x hx
   exact⟨h1,Z,by rw[hb.block _ (lt_of_heap h2)];exact h2,h3⟩
 · intro qd Q qc hq
   obtain⟨h1,h2⟩:=h.row qd Q qc hq
   exact⟨ah h1 hb,h2⟩
 · intro gm G hm
   obtain⟨h1,h2⟩:=h.NT gm G hm
   exact⟨h1.below hb,h2⟩
theorem NI.drew{w1 W:World}{g:Nat}{pl:ByteArray}{rv:Value}{nf:List Pd.Pr}{b:Option Nat}{q:Option (Option Addr×List Pd.Pr×Nat)}{m:Option (Nat×List GT)}(h:NI w1 g pl rv nf b q m W):NI w1 g pl rv nf b q m W.drew:=h.below (Below.refl _ _).drew
theorem NI.alloc{w1 W:World}{g:Nat}{pl:ByteArray}{rv:Value}{nf:List Pd.Pr}{q:Option (Option Addr×List Pd.Pr×Nat)}{m:Option (Nat×List GT)}{Z:Array Value}(h:NI w1 g pl rv nf none q m W)(hz:Z.size=36):NI w1 g pl rv nf (some W.heap.size) q m (W.alloc (.cells Z 107)):=by
 have h2:=h.below (w':=W.alloc (.cells Z 107)) ((Below.refl _ _).alloc (Nat.le_refl _) _)
 refine⟨h2.aQ,h2.gl,h2.c0,h2.c1, ?_,h2.row,h2.NT⟩
 intro x hx
 simp only[Option.some.injEq]at hx
 subst hx
 exact⟨h.aQ.size,Z,heap_alloc_new _ _,hz⟩
theorem NI.cells{w1 W:World}{g:Nat}{pl:ByteArray}{rv:Value}{nf:List Pd.Pr}{b:Option Nat}{q:Option (Option Addr×List Pd.Pr×Nat)}{m:Option (Nat×List GT)}(h:NI w1 g pl rv nf b q m W):W.cell? ⟨g,0,none⟩=some (.string pl)∧W.cell? ⟨g,1,none⟩=some rv:=⟨h.c0,h.c1⟩
theorem NI.stored{w1 W:World}{g x:Nat}{pl:ByteArray}{rv:Value}{nf:List Pd.Pr}{q:Option (Option Addr×List Pd.Pr×Nat)}{m:Option (Nat×List GT)}{cs:Array Value}(h:NI w1 g pl rv nf (some x) q m W)(hc:cs.size=36):NI w1 g pl rv nf (some x) q m (W.setCells x 0 cs.toList):=by
 obtain⟨h1,Z,h2,h3⟩:=h.cP x rfl
 obtain⟨hh,hk⟩:=cD x cs.toList 0 Z W h2 (by simp;omega)
 have hh:(W.setCells x 0 cs.toList).heap[x]?=some (.cells cs 107 (0,0)):=by
  rw[hh,List.drop_eq_nil_of_le (by simp;omega)]
  simp
 have Fw:g≠x:=by have:=h.gl;omega
 have hg:(W.setCells x 0 cs.toList).heap[g]?=W.heap[g]?:=hk.block g (Nat.lt_of_lt_of_le h.gl h.aQ.size) (by simpa using Fw)
 refine⟨hk.aU h.aQ h.aQ.size (by simpa using h1),h.gl, ?_, ?_, ?_, ?_, ?_⟩
 · rw[←h.c0];simp only[World.cell?,hg]
 · rw[←h.c1];simp only[World.cell?,hg]
 · intro y hy
   simp only[Option.some.injEq]at hy
   subst hy
   exact⟨h1,cs,hh,hc⟩
 · intro qd Q qc hq
   obtain⟨k1,k2⟩:=h.row qd Q qc hq
   exact⟨hk.fC k1 (fun b cur fz hb e=>by simp at hb;subst hb;rw[h2]at e;simp at e),k2⟩
 · intro gm G hm
   obtain⟨k1,k2⟩:=h.NT gm G hm
   exact⟨k1.kept hk (k1.kr h2 (by decide) (by decide)),k2⟩
theorem ir{W:World}{x:Nat}{Z cs:Array Value}(h2:W.heap[x]?=some (.cells Z 107 (0,0)))(hz:Z.size=36)(hc:cs.size=36):(W.setCells x 0 cs.toList).heap[x]?=some (.cells cs 107 (0,0)):=by
 obtain⟨hh,hk⟩:=cD x cs.toList 0 Z W h2 (by simp;omega)
 rw[hh,List.drop_eq_nil_of_le (by simp;omega)]
 simp
theorem da{W:World}{x:Nat}{Z cs:Array Value}(h:W.heap[x]?=some (.cells Z 107 (0,0)))(hz:Z.size=36)(hc:cs.size=36)(h1:∀v,v∈cs.toList→v.oneCell'=true):(storeCells ⟨x,0,none⟩ cs.toList).run Tryz.prog W=.ok () (W.setCells x 0 cs.toList):=by
 have hx:∀j,j<cs.toList.length→(W.cell? ⟨x,0+0+j,none⟩).isSome=true:=by
  intro j hj
  rw[cell_of_row _ _ _ _ _ _ h,Nat.zero_add,Array.getElem?_eq_getElem (by simp at hj;omega)]
  rfl
 exact run_storeCells_cells (P:=Tryz.prog) x 0 cs.toList 0 W hx (fun j hj=>by simp[World.frozen?,h]) h1
def uN(cs:Array Value)(b:Option Nat)(w':World):Prop:=match b with
 | some x=>(storeCells ⟨x,0,none⟩ cs.toList).run Tryz.prog w'=.ok () (w'.setCells x 0 cs.toList)
 | none=>∀Z:Array Value,Z.size=36→(storeCells ⟨w'.heap.size,0,none⟩ cs.toList).run Tryz.prog (w'.alloc (.cells Z 107))=.ok () ((w'.alloc (.cells Z 107)).setCells w'.heap.size 0 cs.toList)
theorem PT{w1 W:World}{g:Nat}{pl:ByteArray}{rv:Value}{nf:List Pd.Pr}{b:Option Nat}{q:Option (Option Addr×List Pd.Pr×Nat)}{m:Option (Nat×List GT)}{cs:Array Value}(h:NI w1 g pl rv nf b q m W)(hc:cs.size=36)(h1:∀v,v∈cs.toList→v.oneCell'=true):uN cs b W:=by
 cases b with
 | some x=>
  obtain⟨_,Z,h2,h3⟩:=h.cP x rfl
  exact da h2 h3 hc h1
 | none=>
  intro Z hZ
  exact da (heap_alloc_new _ _) hZ hc h1
end
/- New at axiomkeep's text. -/
section
open Go.RowKit Go.Maps
theorem Es(kl:List Ax.aA)(w:World):Calls Tryz.prog 56 #[.string (Ax.aC kl)] w fun e w'=>∃rd rc l,e=.returned (.tuple #[.agg #[.string (Ax.aC kl),.slice rd (List.length l) rc],.int .i64 0,.int .i64 0])∧(l.map MR.ay).map Ax.lj=Ax.gR kl∧aX w' rd rc l∧Below w.heap.size w w':=by
 obtain⟨rs,j,hR,he,h3,h4,h5,rZ⟩:=Ax.KP kl
 have cR:=Ax.kA kl
 have aaO:=Ax.nr (Ax.aC kl)
 have kg:=Ax.uG (M:=600) (fun t ht=>Nat.le_trans (Ax.wG (Ax.aC kl) t ht) cR) _ _ _ (fun _ h=>by cases h) hR
 have HF:rs.length≤1000∧∀r,r∈rs→Ax.Fits 600 1000 r:=by
  refine⟨by have:=kg.2;simp only[List.length_nil,Nat.zero_add]at this;omega,fun r hr=> ?_⟩
  have:=kg.1 r hr
  exact⟨by have:=this.1;omega,this.2⟩
 have la:(⟨(et (Ax.split (Ax.aC kl))).toArray⟩:ByteArray)=Ax.aC kl:=by
  have h6:=Ax.MH (by omega:¬600<(Ax.aC kl).size) hR h3 h4 h5
  rw[rZ]at h6
  exact(congrArg Prod.fst h6).symm
 refine(Qn (Ax.aC kl) w cR rs j hR HF h3 h4 h5).mono ?_
 rintro e w' ⟨rd,rc,l,rfl,hl,dS,hb⟩
 rw[la]
 exact⟨rd,rc,l,rfl,by rw[hl];exact he,dS,hb⟩
theorem Eb{w w':World}{mb:Nat}{Q:List Pd.Pr}{T:List GT}(h:oU w w' mb Q.length Q T)(hQ:∀p,p∈Q↔p∈jW)(hs:Pd.vp Q):kY w' mb T∧gh T (fun _=>false):=by
 obtain⟨D,ho,hD⟩:=h.map
 have hp:T.map sW=Q.reverse:=by rw[h.nf,List.take_length]
 have hn:T.map GT.nm=(T.map sW).map Prod.fst:=by simp[sW,Function.comp_def]
 have hm:∀p,p∈T.map sW↔p∈jW:=fun p=>by rw[hp,List.mem_reverse];exact hQ p
 have Fl:Q.length≤1000:=by
  have h1:=List.Nodup.length_le_of_subset (tD hs) (fun p hp=>(hQ p).1 hp)
  exact Nat.le_trans h1 (by decide)
 refine⟨⟨ks.of ho (by omega) hD,fun t ht=>(h.bR t ht).1,h.apart, ?_, ?_⟩,⟨hm, ?_⟩⟩
 · rw[hn,hp,List.map_reverse]
   exact List.pairwise_reverse.2 (List.Pairwise.imp (fun h=>Ne.symm h) (o4 hs))
 · intro t ht
   have:=dO _ ((hm _).1 (List.mem_map_of_mem ht))
   exact Nat.le_trans this (by decide)
 · intro t ht r
   obtain⟨_,p,g,rfl,_⟩:=h.bR t ht
   simp[xD]
structure Yv(w1:World)(kl:List Ax.aA)(rv:Value)(hd:List UInt8)(v8 v9:Value)(wx:World):Prop where
 v9:v9=.bool true
 out:∃x gm hm G T s,v8=.pointer (some ⟨x,0,none⟩)∧wx.heap[x]?=some (.cells (aL (Ax.aC kl) rv gm hm hd) 107 (0,0))∧kY wx gm G∧gh G (fun _=>false)∧pe wx hm T s∧En.Inv (En.sR (En.af kl)) (En.gF (fun _=>false)) s s.found.length∧(∀p,p∈T.map gX↔p∈jW)∧Below w1.heap.size w1 wx
structure NE(w1:World)(g:Nat)(kl:List Ax.aA)(rv:Value)(nf:List Pd.Pr)(b:Option Nat)(q:Option (Option Addr×List Pd.Pr×Nat))(gm hm:Nat)(G:List GT)(W:World):Prop where
 ni:NI w1 g (Ax.aC kl) rv nf b q (some (gm,G)) W
 out:∃T s,pe W hm T s∧En.Inv (En.sR (En.af kl)) (En.gF (fun _=>false)) s s.found.length∧(∀p,p∈T.map gX↔p∈jW)∧∀x,b=some x→∀y,y∈cG hm T→y≠x
theorem aJ(pl:ByteArray)(rv:Value)(gm hm:Nat){hd:List UInt8}(h:hd.length=32):(aL pl rv gm hm hd).size=36:=by simp[aL,Rc.bN,h]
theorem gO(pl:ByteArray)(rd:Option Addr)(n rc gm hm:Nat)(hd:List UInt8):∀v,v∈(aL pl (.slice rd n rc) gm hm hd).toList→v.oneCell'=true:=by
 intro v hv
 have R3:=Rc.sB hd
 simp[aL]at hv
 rcases hv with rfl | rfl | rfl | rfl | hv
 · rfl
 · rfl
 · rfl
 · rfl
 · exact R3 v hv
theorem NE.cut{w1 W:World}{g x:Nat}{kl:List Ax.aA}{rv:Value}{nf:List Pd.Pr}{q:Option (Option Addr×List Pd.Pr×Nat)}{gm hm:Nat}{G:List GT}{hd:List UInt8}(h:NE w1 g kl rv nf (some x) q gm hm G W)(hh:hd.length=32):Yv w1 kl rv hd (.pointer (some ⟨x,0,none⟩)) (.bool true) (W.setCells x 0 (aL (Ax.aC kl) rv gm hm hd).toList):=by
 have hs:=h.ni.stored (cs:=aL (Ax.aC kl) rv gm hm hd) (aJ _ _ _ _ hh)
 obtain⟨_,Z,h2,h3⟩:=h.ni.cP x rfl
 obtain⟨T,s,e1,e2,e3,e4⟩:=h.out
 obtain⟨g1,g2⟩:=hs.NT gm G rfl
 obtain⟨Yy,hk⟩:=cD x (aL (Ax.aC kl) rv gm hm hd).toList 0 Z W h2 (by simp[aJ _ _ _ _ hh,h3])
 exact⟨rfl,x,gm,hm,G,T,s,rfl,ir h2 h3 (aJ _ _ _ _ hh),g1,g2,e1.kept hk (fun b hb=>by simpa using e4 x rfl b hb),e2,e3,hs.aQ⟩
theorem NE.alloc{w1 W:World}{g:Nat}{kl:List Ax.aA}{rv:Value}{nf:List Pd.Pr}{q:Option (Option Addr×List Pd.Pr×Nat)}{gm hm:Nat}{G:List GT}{Z:Array Value}(h:NE w1 g kl rv nf none q gm hm G W)(hz:Z.size=36):NE w1 g kl rv nf (some W.heap.size) q gm hm G (W.alloc (.cells Z 107)):=by
 obtain⟨T,s,e1,e2,e3,e4⟩:=h.out
 refine⟨h.ni.alloc hz,T,s,e1.below ((Below.refl _ _).alloc (Nat.le_refl _) _),e2,e3, ?_⟩
 intro x hx y hy e
 simp only[Option.some.injEq]at hx
 have:=e1.lt hy
 omega
theorem PF{Z:Array Value}{U:List Value}(h:U.length=36)(hz:Z.size=37):(U.zipIdx).foldl (fun cs x=>cs.setIfInBounds (0+x.snd) x.fst) Z=(U++Z.toList.drop 36).toArray:=by
 rw[rr 0 U 0 _ (by rw[h,hz];decide)]
 simp[h]
end
/- New at axiomkeep's text, walked. -/
section
open Go.RowKit Go.Maps
theorem ID(cs Z:Array Value)(h:cs.size=36)(hz:Z.size=37):Array.foldl (fun c x=>c.setIfInBounds x.snd x.fst) Z cs.zipIdx 0 36=(cs.toList++Z.toList.drop 36).toArray:=by
 have e2:Array.foldl (fun c (x:Value×Nat)=>c.setIfInBounds x.snd x.fst) Z cs.zipIdx 0 36=(cs.toList.zipIdx).foldl (fun c x=>c.setIfInBounds (0+x.snd) x.fst) Z:=by
  have e1:36=cs.zipIdx.size:=by simp[h]
  rw[e1,←Array.foldl_toList,Array.toList_zipIdx]
  simp
 rw[e2]
 exact PF (by rw[Array.length_toList];exact h) hz
theorem uj(pl:ByteArray)(rv:Value)(gm hm:Nat)(hd:List UInt8):((aL pl rv gm hm hd).toList++[Value.slice none 0 0]).toArray=bE pl rv gm hm hd (.slice none 0 0):=by simp[aL,bE]
theorem PS{w1 wc:World}{kl:List Ax.aA}{rd:Option Addr}{rc gm hm:Nat}{l:List MR}{G:List GT}{T:List HT}{s:En.dH En.b7}{hd:List UInt8}(dS:aX w1 rd rc l)(he:(l.map MR.ay).map Ax.lj=Ax.gR kl)(cu:hd.length=32)
 (h:kY wc gm G∧gh G (fun _=>false)∧pe wc hm T s∧En.Inv (En.sR (En.af kl)) (En.gF (fun _=>false)) s s.found.length∧(∀p,p∈T.map gX↔p∈jW)∧Below w1.heap.size w1 wc){B:Nat}(hB:B≤wc.heap.size):
 nG (wc.alloc (.cells (bE (Ax.aC kl) (.slice rd l.length rc) gm hm hd (.slice none 0 0)) 109)) B wc.heap.size kl (fun _=>false) 0:=by
 obtain⟨h1,h2,h3,h4,h5,h6⟩:=h
 have hb:Below wc.heap.size wc (wc.alloc (.cells (bE (Ax.aC kl) (.slice rd l.length rc) gm hm hd (.slice none 0 0)) 109)):=(Below.refl _ _).alloc (Nat.le_refl _) _
 exact⟨⟨_,rd,rc,l,gm,G,hm,T,s,hd,.slice none 0 0,0,[],heap_alloc_new _ _,(dS.below h6).below hb,he,h1.below hb,h2,h3.below hb,h4,h5,cu,World.ownsRow_nil _ _ _ _,Nat.zero_le _,rfl⟩,hB⟩
theorem PA(kl:List Ax.aA)(K:Nat→Int)(w:World)(hK:Dg.AR w K):Calls Tryz.prog 34 #[.string (Ax.aC kl)] w fun e w'=>∃eg,e=.returned (.tuple #[.pointer (some ⟨eg,0,none⟩),.int .i64 0,.int .i64 0])∧nG w' w.heap.size eg kl (fun _=>false) 0∧Below w.heap.size w w':=by
 have Oz:Hid (Calls Tryz.prog 56 #[.string (Ax.aC kl)] w fun e w'=>∃rd rc l,e=.returned (.tuple #[.agg #[.string (Ax.aC kl),.slice rd (List.length l) rc],.int .i64 0,.int .i64 0])∧Hid ((l.map MR.ay).map Ax.lj=Ax.gR kl∧aX w' rd rc l∧Below w.heap.size w w')):=(Es kl w).mono (fun e w' ⟨rd,rc,l,a,b⟩=>⟨rd,rc,l,a,b⟩)
 have hpz:=Ax.kA kl
 go_enter Tryz.func34,Tryz.ntmps34
 go_upto_region 4 with(go_at_call 56;refine Oz.out.mono ?_;rintro e w0 ⟨rd,rc,l,rfl,S6⟩)
 obtain⟨w1,qa⟩:∃w1,w1=w0.alloc (.cells #[.string (Ax.aC kl),.slice rd l.length rc] 101):=⟨_,rfl⟩
 rw[←qa]
 obtain⟨he,dS,bU⟩:=S6.out
 have fl:Below w0.heap.size w0 w1:=by rw[qa];exact(Below.refl _ _).alloc (Nat.le_refl _) _
 have bq:Below w.heap.size w w1:=bU.trans (fl.mono bU.size)
 have ft:w1.heap[w0.heap.size]?=some (.cells #[.string (Ax.aC kl),.slice rd l.length rc] 101 (0,0)):=by rw[qa];exact heap_alloc_new w0 _
 have Jk:aX w1 rd rc l:=dS.below fl
 obtain⟨Ce,_,EE⟩:=ky Jk he
 have cE:l≠[]:=by
  rintro rfl
  simp[Ax.gR,Ax.nO]at he
 have x0:w1.cell? ⟨w0.heap.size,0,none⟩=some (.string (Ax.aC kl)):=by rw[cell_of_row _ _ 0 _ _ _ ft];rfl
 have x1:w1.cell? ⟨w0.heap.size,1,none⟩=some (.slice rd l.length rc):=by rw[cell_of_row _ _ 1 _ _ _ ft];rfl
 have mO:=lt_of_heap ft
 have hN1:NI w1 w0.heap.size (Ax.aC kl) (.slice rd l.length rc) (bQ (l.map MR.ay)) none none none w1:=⟨Below.refl _ _,mO,x0,x1,(fun x h=>by cases h),(fun _ _ _ h=>by cases h),(fun _ _ h=>by cases h)⟩
 obtain⟨hd,RT⟩:∃hd,hd=Dg.Fq K (Ax.aC kl):=⟨_,rfl⟩
 have cu:hd.length=32:=by rw[RT];exact Dg.wu _ _
 have zU:Hid (∀b W,NI w1 w0.heap.size (Ax.aC kl) (.slice rd l.length rc) (bQ (l.map MR.ay)) b none none W→Calls Tryz.prog 59 #[.agg #[.string (Ax.aC kl),.slice rd l.length rc]] W fun e w'=>∃qd qc Q,e=.returned (.slice qd (List.length Q) qc)∧NI w1 w0.heap.size (Ax.aC kl) (.slice rd l.length rc) (bQ (l.map MR.ay)) b (some (qd,Q,qc)) none w'):=by
  intro b W hW
  refine(pw W _ rd rc l (Jk.below hW.aQ) (by omega) (pq he) cE).mono ?_
  rintro e w' ⟨qd,qc,Q,rfl,q1,q2,q3⟩
  have h2:=hW.below q2
  refine⟨qd,qc,Q,rfl,h2.aQ,h2.gl,h2.c0,h2.c1,h2.cP, ?_,fun _ _ h=>by cases h⟩
  intro qd' Q' qc' h
  simp only[Option.some.injEq,Prod.mk.injEq]at h
  obtain⟨rfl,rfl,rfl⟩:=h
  exact⟨aE q1 (Nat.zero_le _),q3.out⟩
 have ZY:Hid (∀b qd Q qc W,NI w1 w0.heap.size (Ax.aC kl) (.slice rd l.length rc) (bQ (l.map MR.ay)) b (some (qd,Q,qc)) none W→Calls Tryz.prog 58 #[.slice qd (List.length Q) qc] W fun e w'=>∃gm G,e=.returned (.map (some gm))∧NI w1 w0.heap.size (Ax.aC kl) (.slice rd l.length rc) (bQ (l.map MR.ay)) b (some (qd,Q,qc)) (some (gm,G)) w'):=by
  intro b qd Q qc W hW
  obtain⟨r1,r2,r3⟩:=hW.row qd Q qc rfl
  have hQ:∀p,p∈Q↔p∈jW:=fun p=>(r3 p).trans (eZ he p)
  have Fl:Q.length≤3:=List.Nodup.length_le_of_subset (tD r2) (fun p hp=>(hQ p).1 hp)
  refine(pT W 0 qd qc Q r1 (by omega) (fun p hp=>Nat.le_trans (dO p ((hQ p).1 hp)) (by decide))).mono ?_
  rintro e w' ⟨T,rfl,hT⟩
  have h2:=hW.below hT.aQ
  refine⟨_,T,rfl,h2.aQ,h2.gl,h2.c0,h2.c1,h2.cP,h2.row, ?_⟩
  intro gm' G' h
  simp only[Option.some.injEq,Prod.mk.injEq]at h
  obtain⟨rfl,rfl⟩:=h
  exact Eb hT hQ r2
 have HOF:Hid (∀b q m W,NI w1 w0.heap.size (Ax.aC kl) (.slice rd l.length rc) (bQ (l.map MR.ay)) b q m W→Calls Tryz.prog 60 #[.string (Ax.aC kl)] W fun e w'=>e=.returned (.agg (Rc.bP hd).toArray)∧NI w1 w0.heap.size (Ax.aC kl) (.slice rd l.length rc) (bQ (l.map MR.ay)) b q m w'):=by
  intro b q m W hW
  rw[RT]
  refine(Dx K (Ax.aC kl) W (hK.below (bq.trans (hW.aQ.mono bq.size))) (by omega)).mono ?_
  rintro e w' ⟨rfl,hb⟩
  exact⟨rfl,hW.below hb⟩
 have JE:Hid (∀b q gm G W,NI w1 w0.heap.size (Ax.aC kl) (.slice rd l.length rc) (bQ (l.map MR.ay)) b q (some (gm,G)) W→Calls Tryz.prog 57 #[.agg #[.string (Ax.aC kl),.slice rd l.length rc],.map (some gm),.agg (Rc.bP hd).toArray] W fun e w'=>∃hm,e=.returned (.tuple #[.agg (aL (Ax.aC kl) (.slice rd l.length rc) gm hm hd),.bool true])∧uN (aL (Ax.aC kl) (.slice rd l.length rc) gm hm hd) b w'∧NE w1 w0.heap.size kl (.slice rd l.length rc) (bQ (l.map MR.ay)) b q gm hm G w'):=by
  intro b q gm G W hW
  obtain⟨g1,g2⟩:=hW.NT gm G rfl
  have dj:∀Q,Pd.vp Q→(∀p,p∈Q↔p∈bQ (l.map MR.ay))→∃s,fu (l.map MR.ay) (dz Q G)=some s∧En.Inv (En.sR (En.af kl)) (En.gF (fun _=>false)) s s.found.length:=fun Q _ hQ=>om he g2 g1.names hQ
  refine(xA W _ rd rc l (Ce.below hW.aQ) EE (pq he) cE (fun p hp=>Nat.le_trans (dO p ((eZ he p).1 hp)) (by decide)) gm G g1 ?_ (Nat.le_trans (g2.sum g1.names (fun t ht=>bW.ord (g1.bR t ht))) (by decide)) hd cu ?_).mono ?_
  · intro p hp
    obtain⟨t,ht,e,_⟩:=g2.has (p:=p.1) (n:=p.2) ((eZ he p).1 hp)
    rw[←e]
    exact List.mem_map_of_mem ht
  · intro Q h1 h2
    obtain⟨s,e,_⟩:=dj Q h1 h2
    rw[e]
    rfl
  · rintro e w' ⟨hm,T,s,Q,rfl,m1,m2,m3,m4,m5,m6,m7⟩
    have h2:=hW.below m7
    obtain⟨s',e1,e2⟩:=dj Q m1 m2
    have hs:s'=s:=by
     rw[m3]at e1
     exact(Option.some.inj e1).symm
    subst hs
    refine⟨hm,rfl,PT h2 (aJ _ _ _ _ cu) (gO _ _ _ _ _ _ _),h2,T,s',m4,e2, ?_, ?_⟩
    · intro p
      rw[m5,List.mem_reverse,m2]
      exact eZ he p
    · intro x hx y hy
      obtain⟨_,Z,k2,_⟩:=hW.cP x hx
      have k3:=lt_of_heap k2
      have:=m6 y hy
      omega
 have RB:Hid (aX w1 rd rc l):=Jk
 have lh:Hid (Below w.heap.size w w1):=bq
 have HE:Hid ((l.map MR.ay).map Ax.lj=Ax.gR kl):=he
 generalize bQ (l.map MR.ay)=nf at*
 clear Ce Jk bq fl bU dS he S6 qa ft hK Oz cE RT EE
 go_cut [8,9]from 20 (fun v8 v9 wx=>Hid (Yv w1 kl (.slice rd l.length rc) hd v8 v9 wx))
 case first=>
  go_region_held3 (fun w'=>w'.cell? ⟨w0.heap.size,0,none⟩=some (.string (Ax.aC kl))∧w'.cell? ⟨w0.heap.size,1,none⟩=some (.slice rd l.length rc)) (first | (exact NI.cells (by assumption)) | (exact NI.cells (NI.drew (by assumption))) | (exact NI.cells (NI.alloc (by assumption) rfl)) | (exact NI.cells (NI.alloc (NI.drew (by assumption)) rfl)) | (exact NI.cells (NE.ni (by assumption))) | (exact NI.cells (NE.ni (NE.alloc (by assumption) rfl))) | (exact NI.cells (NI.stored (NE.ni (by assumption)) (aJ _ _ _ _ cu))) | (exact NI.cells (NI.stored (NE.ni (NE.alloc (by assumption) rfl)) (aJ _ _ _ _ cu)))) (first | (go_at_call 59;refine(zU.out _ _ (by first | assumption | exact NI.drew (by assumption) | exact NI.alloc (by assumption) rfl | exact NI.alloc (NI.drew (by assumption)) rfl)).mono ?_;rintro e wn ⟨qd,qc,Q,rfl,hN⟩) | (go_at_call 58;refine(ZY.out _ _ _ _ _ (by first | assumption | exact NI.drew (by assumption) | exact NI.alloc (by assumption) rfl | exact NI.alloc (NI.drew (by assumption)) rfl)).mono ?_;rintro e wn ⟨gm,G,rfl,hN⟩) | (go_at_call 60;refine(HOF.out _ _ _ _ (by first | assumption | exact NI.drew (by assumption) | exact NI.alloc (by assumption) rfl | exact NI.alloc (NI.drew (by assumption)) rfl)).mono ?_;rintro e wn ⟨rfl,hN⟩) | (go_at_call 57;refine(JE.out _ _ _ _ _ (by first | assumption | exact NI.drew (by assumption) | exact NI.alloc (by assumption) rfl | exact NI.alloc (NI.drew (by assumption)) rfl)).mono ?_;rintro e wn ⟨hm,rfl,eL,hE⟩;unfold uN at eL;dsimp only at eL;(try simp only[World.size_drew]at eL);have cR:=aJ (Ax.aC kl) (.slice rd l.length rc) gm hm cu))
  all_goals
   (go_wp2_with fail
    go_meet
    first
    | exact NE.cut (by assumption) cu
    | exact NE.cut (NE.alloc (by assumption) rfl) cu)
 case rest=>
  obtain⟨hv9,x,gm,hm,G,T,s,Zo,hx,HQ⟩:=hcut.out
  subst hv9
  subst Zo
  have HQ':Hid _:=HQ
  have cR:=aJ (Ax.aC kl) (.slice rd l.length rc) gm hm cu
  clear hcut HQ
  go_wp2_with (refine wpList_load_row rfl _ _ rfl x rfl _ _ _ _ hx Tryz.underlying107 rfl (by rw[aJ _ _ _ _ cu];kernel_rfl) ?_)
  rw[ID _ _ (aJ _ _ _ _ cu) rfl]
  have e9:((aL (Ax.aC kl) (.slice rd l.length rc) gm hm hd).toList++[Value.slice none 0 0]).toArray=bE (Ax.aC kl) (.slice rd l.length rc) gm hm hd (.slice none 0 0):=uj _ _ _ _ _
  have yL:=HQ'.out.2.2.2.2.2
  have XH:Below w.heap.size w wc:=lh.out.trans (yL.mono lh.out.size)
  go_ret3
  refine⟨wc.heap.size,rfl, ?_,XH.alloc XH.size _⟩
  exact PS RB.out HE.out cu HQ'.out XH.size
end
end Go.Proofs.YtdmicblafmhflaaGreatDoor

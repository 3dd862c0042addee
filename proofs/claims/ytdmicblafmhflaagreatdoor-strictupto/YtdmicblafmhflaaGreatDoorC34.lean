/- An engine as it lies; what New's steps keep. -/
import Derived.Test.YtdmicblafmhflaaGreatDoorC33
import Derived.Deep.MidRow
import Derived.OwnWalk
set_option linter.unusedSimpArgs false
set_option linter.unusedVariables false
set_option maxHeartbeats 4000000
set_option maxRecDepth 100000
namespace Go.Proofs.YtdmicblafmhflaaGreatDoor
section
open Go.RowKit Go.Maps
def bH(pl:ByteArray)(rv:Value)(gm hm:Nat)(hd:List UInt8)(lv:Value):Array Value:=([Value.string pl,rv,.map (some gm),.map (some hm)]++Rc.bB hd++[lv]).toArray
structure yU(w:World)(B eg:Nat)(kl:List Ax.aM)(gv:Nat→Bool)(n:Nat):Prop where
 at_:∃pl rd rc l gm G hm T s hd lv ln lx,w.heap[eg]?=some (.cells (bH pl (.slice rd (List.length l) rc) gm hm hd lv) 109 (0,0))∧
  aB w rd rc l∧(l.map MR.ak).map Ax.ke=Ax.gR kl∧jY w gm G∧jh G gv∧p5 w hm T s∧En.Inv (En.sR (En.cF kl)) (En.gF gv) s s.found.length∧(∀p,p∈T.map iR↔p∈oj)∧
  hd.length=32∧w.ownsRow B 5 1 lv ln lx∧ln≤1000*n∧pl=Ax.aH kl
 ge:B≤eg
theorem lN{w:World}{a b:Nat}{x y:Array Value}{s t:TypeId}{f g:Nat×Nat}(ha:w.heap[a]?=some (.cells x s f))(hb:w.heap[b]?=some (.cells y t g))(h:s≠t):a≠b:=fun e=>by
 rw[e,hb]at ha
 simp at ha
 exact h ha.2.1.symm
theorem jY.kG{w:World}{gm:Nat}{G:List GT}(h:jY w gm G){x:Nat}{Z:Array Value}{t:TypeId}{f:Nat×Nat}(hx:w.heap[x]?=some (.cells Z t f))(h1:t≠125)(h2:t≠119):∀b,b∈ev gm G→¬b∈[x]:=by
 intro b hb e
 simp only[List.mem_cons,List.not_mem_nil,or_false]at e
 subst e
 unfold ev at hb
 rcases List.mem_cons.1 hb with rfl | hb
 · obtain⟨es,ck,e⟩:=h.map.block
   rw[e]at hx
   cases hx
 · obtain⟨u,hu,hb⟩:=List.mem_flatMap.1 hb
   obtain⟨cur,T,e,hT⟩:=(h.bX u hu).types hb
   rw[e]at hx
   simp at hx
   rcases hT with rfl | rfl
   · exact h1 hx.2.1.symm
   · exact h2 hx.2.1.symm
structure NI(w1:World)(g:Nat)(pl:ByteArray)(rv:Value)(mS:List Pd.Pr)(b:Option Nat)(q:Option (Option Addr×List Pd.Pr×Nat))(m:Option (Nat×List GT))(W:World):Prop where
 be:Below w1.heap.size w1 W
 gl:g<w1.heap.size
 c0:W.cell? ⟨g,0,none⟩=some (.string pl)
 c1:W.cell? ⟨g,1,none⟩=some rv
 da:∀x,b=some x→w1.heap.size≤x∧∃Z,W.heap[x]?=some (.cells Z 107 (0,0))∧Z.size=36
 row:∀qd Q qc,q=some (qd,Q,qc)→W.ownsRow 0 112 2 (.slice qd Q.length qc) Q.length (au Q)∧Pd.lX Q∧∀p,p∈Q↔p∈mS
 rA:∀gm G,m=some (gm,G)→jY W gm G∧jh G (fun _=>false)
theorem NI.below{w1 W w':World}{g:Nat}{pl:ByteArray}{rv:Value}{mS:List Pd.Pr}{b:Option Nat}{q:Option (Option Addr×List Pd.Pr×Nat)}{m:Option (Nat×List GT)}(h:NI w1 g pl rv mS b q m W)(hb:Below W.heap.size W w'):NI w1 g pl rv mS b q m w':=by
 have mh:g<W.heap.size:=Nat.lt_of_lt_of_le h.gl h.be.size
 refine⟨h.be.trans (hb.mono h.be.size),h.gl,by rw[hb.cell mh];exact h.c0,by rw[hb.cell mh];exact h.c1, ?_, ?_, ?_⟩
 · intro x hx
   obtain⟨h1,Z,h2,h3⟩:=h.da x hx
   exact⟨h1,Z,by rw[hb.block _ (lt_of_heap h2)];exact h2,h3⟩
 · intro qd Q qc hq
   obtain⟨h1,h2⟩:=h.row qd Q qc hq
   exact⟨af h1 hb,h2⟩
 · intro gm G hm
   obtain⟨h1,h2⟩:=h.rA gm G hm
   exact⟨h1.below hb,h2⟩
theorem NI.drew{w1 W:World}{g:Nat}{pl:ByteArray}{rv:Value}{mS:List Pd.Pr}{b:Option Nat}{q:Option (Option Addr×List Pd.Pr×Nat)}{m:Option (Nat×List GT)}(h:NI w1 g pl rv mS b q m W):NI w1 g pl rv mS b q m W.drew:=h.below (Below.refl _ _).drew
theorem NI.alloc{w1 W:World}{g:Nat}{pl:ByteArray}{rv:Value}{mS:List Pd.Pr}{q:Option (Option Addr×List Pd.Pr×Nat)}{m:Option (Nat×List GT)}{Z:Array Value}(h:NI w1 g pl rv mS none q m W)(hz:Z.size=36):NI w1 g pl rv mS (some W.heap.size) q m (W.alloc (.cells Z 107)):=by
 have h2:=h.below (w':=W.alloc (.cells Z 107)) ((Below.refl _ _).alloc (Nat.le_refl _) _)
 refine⟨h2.be,h2.gl,h2.c0,h2.c1, ?_,h2.row,h2.rA⟩
 intro x hx
 simp only[Option.some.injEq]at hx
 subst hx
 exact⟨h.be.size,Z,heap_alloc_new _ _,hz⟩
theorem NI.cells{w1 W:World}{g:Nat}{pl:ByteArray}{rv:Value}{mS:List Pd.Pr}{b:Option Nat}{q:Option (Option Addr×List Pd.Pr×Nat)}{m:Option (Nat×List GT)}(h:NI w1 g pl rv mS b q m W):W.cell? ⟨g,0,none⟩=some (.string pl)∧W.cell? ⟨g,1,none⟩=some rv:=⟨h.c0,h.c1⟩
theorem NI.stored{w1 W:World}{g x:Nat}{pl:ByteArray}{rv:Value}{mS:List Pd.Pr}{q:Option (Option Addr×List Pd.Pr×Nat)}{m:Option (Nat×List GT)}{cs:Array Value}(h:NI w1 g pl rv mS (some x) q m W)(hc:cs.size=36):NI w1 g pl rv mS (some x) q m (W.setCells x 0 cs.toList):=by
 obtain⟨h1,Z,h2,h3⟩:=h.da x rfl
 obtain⟨hh,hk⟩:=bO x cs.toList 0 Z W h2 (by simp;omega)
 have hh:(W.setCells x 0 cs.toList).heap[x]?=some (.cells cs 107 (0,0)):=by
  rw[hh,List.drop_eq_nil_of_le (by simp;omega)]
  simp
 have Kx:g≠x:=by have:=h.gl;omega
 have hg:(W.setCells x 0 cs.toList).heap[g]?=W.heap[g]?:=hk.block g (Nat.lt_of_lt_of_le h.gl h.be.size) (by simpa using Kx)
 refine⟨hk.aK h.be h.be.size (by simpa using h1),h.gl, ?_, ?_, ?_, ?_, ?_⟩
 · rw[←h.c0];simp only[World.cell?,hg]
 · rw[←h.c1];simp only[World.cell?,hg]
 · intro y hy
   simp only[Option.some.injEq]at hy
   subst hy
   exact⟨h1,cs,hh,hc⟩
 · intro qd Q qc hq
   obtain⟨k1,k2⟩:=h.row qd Q qc hq
   exact⟨hk.ie k1 (fun b cur fz hb e=>by simp at hb;subst hb;rw[h2]at e;simp at e),k2⟩
 · intro gm G hm
   obtain⟨k1,k2⟩:=h.rA gm G hm
   exact⟨k1.kept hk (k1.kG h2 (by decide) (by decide)),k2⟩
theorem eO{W:World}{x:Nat}{Z cs:Array Value}(h2:W.heap[x]?=some (.cells Z 107 (0,0)))(hz:Z.size=36)(hc:cs.size=36):(W.setCells x 0 cs.toList).heap[x]?=some (.cells cs 107 (0,0)):=by
 obtain⟨hh,hk⟩:=bO x cs.toList 0 Z W h2 (by simp;omega)
 rw[hh,List.drop_eq_nil_of_le (by simp;omega)]
 simp
theorem cO{W:World}{x:Nat}{Z cs:Array Value}(h:W.heap[x]?=some (.cells Z 107 (0,0)))(hz:Z.size=36)(hc:cs.size=36)(h1:∀v,v∈cs.toList→v.oneCell'=true):(storeCells ⟨x,0,none⟩ cs.toList).run Tryz.prog W=.ok () (W.setCells x 0 cs.toList):=by
 have hx:∀j,j<cs.toList.length→(W.cell? ⟨x,0+0+j,none⟩).isSome=true:=by
  intro j hj
  rw[cell_of_row _ _ _ _ _ _ h,Nat.zero_add,Array.getElem?_eq_getElem (by simp at hj;omega)]
  rfl
 exact run_storeCells_cells (P:=Tryz.prog) x 0 cs.toList 0 W hx (fun j hj=>by simp[World.frozen?,h]) h1
def ve(cs:Array Value)(b:Option Nat)(w':World):Prop:=match b with
 | some x=>(storeCells ⟨x,0,none⟩ cs.toList).run Tryz.prog w'=.ok () (w'.setCells x 0 cs.toList)
 | none=>∀Z:Array Value,Z.size=36→(storeCells ⟨w'.heap.size,0,none⟩ cs.toList).run Tryz.prog (w'.alloc (.cells Z 107))=.ok () ((w'.alloc (.cells Z 107)).setCells w'.heap.size 0 cs.toList)
theorem RZ{w1 W:World}{g:Nat}{pl:ByteArray}{rv:Value}{mS:List Pd.Pr}{b:Option Nat}{q:Option (Option Addr×List Pd.Pr×Nat)}{m:Option (Nat×List GT)}{cs:Array Value}(h:NI w1 g pl rv mS b q m W)(hc:cs.size=36)(h1:∀v,v∈cs.toList→v.oneCell'=true):ve cs b W:=by
 cases b with
 | some x=>
  obtain⟨_,Z,h2,h3⟩:=h.da x rfl
  exact cO h2 h3 hc h1
 | none=>
  intro Z hZ
  exact cO (heap_alloc_new _ _) hZ hc h1
end
/- New at axiomkeep's text. -/
section
open Go.RowKit Go.Maps
theorem ON(kl:List Ax.aM)(w:World):Calls Tryz.prog 56 #[.string (Ax.aH kl)] w fun e w'=>∃rd rc l,e=.returned (.tuple #[.agg #[.string (Ax.aH kl),.slice rd (List.length l) rc],.int .i64 0,.int .i64 0])∧(l.map MR.ak).map Ax.ke=Ax.gR kl∧aB w' rd rc l∧Below w.heap.size w w':=by
 obtain⟨rs,j,hR,he,h3,h4,h5,og⟩:=Ax.zY kl
 have cr:=Ax.kz kl
 have Sf:=Ax.fT (Ax.aH kl)
 have jF:=Ax.lH (M:=600) (fun t ht=>Nat.le_trans (Ax.jf (Ax.aH kl) t ht) cr) _ _ _ (fun _ h=>by cases h) hR
 have HF:rs.length≤1000∧∀r,r∈rs→Ax.Fits 600 1000 r:=by
  refine⟨by have:=jF.2;simp only[List.length_nil,Nat.zero_add]at this;omega,fun r hr=> ?_⟩
  have:=jF.1 r hr
  exact⟨by have:=this.1;omega,this.2⟩
 have lu:(⟨(dy (Ax.split (Ax.aH kl))).toArray⟩:ByteArray)=Ax.aH kl:=by
  have h6:=Ax.B2 (by omega:¬600<(Ax.aH kl).size) hR h3 h4 h5
  rw[og]at h6
  exact(congrArg Prod.fst h6).symm
 refine(Iv (Ax.aH kl) w cr rs j hR HF h3 h4 h5).mono ?_
 rintro e w' ⟨rd,rc,l,rfl,hl,dQ,hb⟩
 rw[lu]
 exact⟨rd,rc,l,rfl,by rw[hl];exact he,dQ,hb⟩
theorem Me{w w':World}{mb:Nat}{Q:List Pd.Pr}{T:List GT}(h:mT w w' mb Q.length Q T)(hQ:∀p,p∈Q↔p∈oj)(hs:Pd.lX Q):jY w' mb T∧jh T (fun _=>false):=by
 obtain⟨D,ho,hD⟩:=h.map
 have hp:T.map oI=Q.reverse:=by rw[h.mS,List.take_length]
 have hn:T.map GT.nm=(T.map oI).map Prod.fst:=by simp[oI,Function.comp_def]
 have hm:∀p,p∈T.map oI↔p∈oj:=fun p=>by rw[hp,List.mem_reverse];exact hQ p
 have T9:Q.length≤1000:=by
  have h1:=List.Nodup.length_le_of_subset (tV hs) (fun p hp=>(hQ p).1 hp)
  exact Nat.le_trans h1 (by decide)
 refine⟨⟨kh.of ho (by omega) hD,fun t ht=>(h.bX t ht).1,h.apart, ?_, ?_⟩,⟨hm, ?_⟩⟩
 · rw[hn,hp,List.map_reverse]
   exact List.pairwise_reverse.2 (List.Pairwise.imp (fun h=>Ne.symm h) (dS hs))
 · intro t ht
   have:=iX _ ((hm _).1 (List.mem_map_of_mem ht))
   exact Nat.le_trans this (by decide)
 · intro t ht r
   obtain⟨_,p,g,rfl,_⟩:=h.bX t ht
   simp[xG]
structure Zk(w1:World)(kl:List Ax.aM)(rv:Value)(hd:List UInt8)(v8 v9:Value)(wx:World):Prop where
 v9:v9=.bool true
 out:∃x gm hm G T s,v8=.pointer (some ⟨x,0,none⟩)∧wx.heap[x]?=some (.cells (aI (Ax.aH kl) rv gm hm hd) 107 (0,0))∧jY wx gm G∧jh G (fun _=>false)∧p5 wx hm T s∧En.Inv (En.sR (En.cF kl)) (En.gF (fun _=>false)) s s.found.length∧(∀p,p∈T.map iR↔p∈oj)∧Below w1.heap.size w1 wx
structure NE(w1:World)(g:Nat)(kl:List Ax.aM)(rv:Value)(mS:List Pd.Pr)(b:Option Nat)(q:Option (Option Addr×List Pd.Pr×Nat))(gm hm:Nat)(G:List GT)(W:World):Prop where
 ni:NI w1 g (Ax.aH kl) rv mS b q (some (gm,G)) W
 out:∃T s,p5 W hm T s∧En.Inv (En.sR (En.cF kl)) (En.gF (fun _=>false)) s s.found.length∧(∀p,p∈T.map iR↔p∈oj)∧∀x,b=some x→∀y,y∈cA hm T→y≠x
theorem aQ(pl:ByteArray)(rv:Value)(gm hm:Nat){hd:List UInt8}(h:hd.length=32):(aI pl rv gm hm hd).size=36:=by simp[aI,Rc.bC,h]
theorem gV(pl:ByteArray)(rd:Option Addr)(n rc gm hm:Nat)(hd:List UInt8):∀v,v∈(aI pl (.slice rd n rc) gm hm hd).toList→v.oneCell'=true:=by
 intro v hv
 have QI:=Rc.qR hd
 simp[aI]at hv
 rcases hv with rfl | rfl | rfl | rfl | hv
 · rfl
 · rfl
 · rfl
 · rfl
 · exact QI v hv
theorem NE.cut{w1 W:World}{g x:Nat}{kl:List Ax.aM}{rv:Value}{mS:List Pd.Pr}{q:Option (Option Addr×List Pd.Pr×Nat)}{gm hm:Nat}{G:List GT}{hd:List UInt8}(h:NE w1 g kl rv mS (some x) q gm hm G W)(hh:hd.length=32):Zk w1 kl rv hd (.pointer (some ⟨x,0,none⟩)) (.bool true) (W.setCells x 0 (aI (Ax.aH kl) rv gm hm hd).toList):=by
 have hs:=h.ni.stored (cs:=aI (Ax.aH kl) rv gm hm hd) (aQ _ _ _ _ hh)
 obtain⟨_,Z,h2,h3⟩:=h.ni.da x rfl
 obtain⟨T,s,e1,e2,e3,e4⟩:=h.out
 obtain⟨g1,g2⟩:=hs.rA gm G rfl
 obtain⟨Ww,hk⟩:=bO x (aI (Ax.aH kl) rv gm hm hd).toList 0 Z W h2 (by simp[aQ _ _ _ _ hh,h3])
 exact⟨rfl,x,gm,hm,G,T,s,rfl,eO h2 h3 (aQ _ _ _ _ hh),g1,g2,e1.kept hk (fun b hb=>by simpa using e4 x rfl b hb),e2,e3,hs.be⟩
theorem NE.alloc{w1 W:World}{g:Nat}{kl:List Ax.aM}{rv:Value}{mS:List Pd.Pr}{q:Option (Option Addr×List Pd.Pr×Nat)}{gm hm:Nat}{G:List GT}{Z:Array Value}(h:NE w1 g kl rv mS none q gm hm G W)(hz:Z.size=36):NE w1 g kl rv mS (some W.heap.size) q gm hm G (W.alloc (.cells Z 107)):=by
 obtain⟨T,s,e1,e2,e3,e4⟩:=h.out
 refine⟨h.ni.alloc hz,T,s,e1.below ((Below.refl _ _).alloc (Nat.le_refl _) _),e2,e3, ?_⟩
 intro x hx y hy e
 simp only[Option.some.injEq]at hx
 have:=e1.lt hy
 omega
theorem R0{Z:Array Value}{U:List Value}(h:U.length=36)(hz:Z.size=37):(U.zipIdx).foldl (fun cs x=>cs.setIfInBounds (0+x.snd) x.fst) Z=(U++Z.toList.drop 36).toArray:=by
 rw[wH 0 U 0 _ (by rw[h,hz];decide)]
 simp[h]
end
/- New at axiomkeep's text, walked. -/
section
open Go.RowKit Go.Maps
theorem Jk(cs Z:Array Value)(h:cs.size=36)(hz:Z.size=37):Array.foldl (fun c x=>c.setIfInBounds x.snd x.fst) Z cs.zipIdx 0 36=(cs.toList++Z.toList.drop 36).toArray:=by
 have e2:Array.foldl (fun c (x:Value×Nat)=>c.setIfInBounds x.snd x.fst) Z cs.zipIdx 0 36=(cs.toList.zipIdx).foldl (fun c x=>c.setIfInBounds (0+x.snd) x.fst) Z:=by
  have e1:36=cs.zipIdx.size:=by simp[h]
  rw[e1,←Array.foldl_toList,Array.toList_zipIdx]
  simp
 rw[e2]
 exact R0 (by rw[Array.length_toList];exact h) hz
theorem uL(pl:ByteArray)(rv:Value)(gm hm:Nat)(hd:List UInt8):((aI pl rv gm hm hd).toList++[Value.slice none 0 0]).toArray=bH pl rv gm hm hd (.slice none 0 0):=by simp[aI,bH]
theorem Qp{w1 wc:World}{kl:List Ax.aM}{rd:Option Addr}{rc gm hm:Nat}{l:List MR}{G:List GT}{T:List HT}{s:En.cU En.bE}{hd:List UInt8}(dQ:aB w1 rd rc l)(he:(l.map MR.ak).map Ax.ke=Ax.gR kl)(cN:hd.length=32)
 (h:jY wc gm G∧jh G (fun _=>false)∧p5 wc hm T s∧En.Inv (En.sR (En.cF kl)) (En.gF (fun _=>false)) s s.found.length∧(∀p,p∈T.map iR↔p∈oj)∧Below w1.heap.size w1 wc){B:Nat}(hB:B≤wc.heap.size):
 yU (wc.alloc (.cells (bH (Ax.aH kl) (.slice rd l.length rc) gm hm hd (.slice none 0 0)) 109)) B wc.heap.size kl (fun _=>false) 0:=by
 obtain⟨h1,h2,h3,h4,h5,h6⟩:=h
 have hb:Below wc.heap.size wc (wc.alloc (.cells (bH (Ax.aH kl) (.slice rd l.length rc) gm hm hd (.slice none 0 0)) 109)):=(Below.refl _ _).alloc (Nat.le_refl _) _
 exact⟨⟨_,rd,rc,l,gm,G,hm,T,s,hd,.slice none 0 0,0,[],heap_alloc_new _ _,(dQ.below h6).below hb,he,h1.below hb,h2,h3.below hb,h4,h5,cN,World.ownsRow_nil _ _ _ _,Nat.zero_le _,rfl⟩,hB⟩
theorem QR(kl:List Ax.aM)(K:Nat→Int)(w:World)(hK:Dg.C4 w K):Calls Tryz.prog 34 #[.string (Ax.aH kl)] w fun e w'=>∃eg,e=.returned (.tuple #[.pointer (some ⟨eg,0,none⟩),.int .i64 0,.int .i64 0])∧yU w' w.heap.size eg kl (fun _=>false) 0∧Below w.heap.size w w':=by
 have ET:Hid (Calls Tryz.prog 56 #[.string (Ax.aH kl)] w fun e w'=>∃rd rc l,e=.returned (.tuple #[.agg #[.string (Ax.aH kl),.slice rd (List.length l) rc],.int .i64 0,.int .i64 0])∧Hid ((l.map MR.ak).map Ax.ke=Ax.gR kl∧aB w' rd rc l∧Below w.heap.size w w')):=(ON kl w).mono (fun e w' ⟨rd,rc,l,a,b⟩=>⟨rd,rc,l,a,b⟩)
 have hpz:=Ax.kz kl
 go_enter Tryz.func34,Tryz.ntmps34
 go_upto_region 4 with(go_at_call 56;refine ET.out.mono ?_;rintro e w0 ⟨rd,rc,l,rfl,HRU⟩)
 obtain⟨w1,sP⟩:∃w1,w1=w0.alloc (.cells #[.string (Ax.aH kl),.slice rd l.length rc] 101):=⟨_,rfl⟩
 rw[←sP]
 obtain⟨he,dQ,bK⟩:=HRU.out
 have fY:Below w0.heap.size w0 w1:=by rw[sP];exact(Below.refl _ _).alloc (Nat.le_refl _) _
 have bk:Below w.heap.size w w1:=bK.trans (fY.mono bK.size)
 have fA:w1.heap[w0.heap.size]?=some (.cells #[.string (Ax.aH kl),.slice rd l.length rc] 101 (0,0)):=by rw[sP];exact heap_alloc_new w0 _
 have KQ:aB w1 rd rc l:=dQ.below fY
 obtain⟨C5,_,CS⟩:=xe KQ he
 have cL:l≠[]:=by
  rintro rfl
  simp[Ax.gR,Ax.re]at he
 have x0:w1.cell? ⟨w0.heap.size,0,none⟩=some (.string (Ax.aH kl)):=by rw[cell_of_row _ _ 0 _ _ _ fA];rfl
 have x1:w1.cell? ⟨w0.heap.size,1,none⟩=some (.slice rd l.length rc):=by rw[cell_of_row _ _ 1 _ _ _ fA];rfl
 have mh:=lt_of_heap fA
 have hN1:NI w1 w0.heap.size (Ax.aH kl) (.slice rd l.length rc) (aS (l.map MR.ak)) none none none w1:=⟨Below.refl _ _,mh,x0,x1,(fun x h=>by cases h),(fun _ _ _ h=>by cases h),(fun _ _ h=>by cases h)⟩
 obtain⟨hd,Fz⟩:∃hd,hd=Dg.GL K (Ax.aH kl):=⟨_,rfl⟩
 have cN:hd.length=32:=by rw[Fz];exact Dg.xz _ _
 have AJ:Hid (∀b W,NI w1 w0.heap.size (Ax.aH kl) (.slice rd l.length rc) (aS (l.map MR.ak)) b none none W→Calls Tryz.prog 59 #[.agg #[.string (Ax.aH kl),.slice rd l.length rc]] W fun e w'=>∃qd qc Q,e=.returned (.slice qd (List.length Q) qc)∧NI w1 w0.heap.size (Ax.aH kl) (.slice rd l.length rc) (aS (l.map MR.ak)) b (some (qd,Q,qc)) none w'):=by
  intro b W hW
  refine(KG W _ rd rc l (KQ.below hW.be) (by omega) (Ck he) cL).mono ?_
  rintro e w' ⟨qd,qc,Q,rfl,q1,q2,q3⟩
  have h2:=hW.below q2
  refine⟨qd,qc,Q,rfl,h2.be,h2.gl,h2.c0,h2.c1,h2.da, ?_,fun _ _ h=>by cases h⟩
  intro qd' Q' qc' h
  simp only[Option.some.injEq,Prod.mk.injEq]at h
  obtain⟨rfl,rfl,rfl⟩:=h
  exact⟨aN q1 (Nat.zero_le _),q3.out⟩
 have HNG:Hid (∀b qd Q qc W,NI w1 w0.heap.size (Ax.aH kl) (.slice rd l.length rc) (aS (l.map MR.ak)) b (some (qd,Q,qc)) none W→Calls Tryz.prog 58 #[.slice qd (List.length Q) qc] W fun e w'=>∃gm G,e=.returned (.map (some gm))∧NI w1 w0.heap.size (Ax.aH kl) (.slice rd l.length rc) (aS (l.map MR.ak)) b (some (qd,Q,qc)) (some (gm,G)) w'):=by
  intro b qd Q qc W hW
  obtain⟨r1,r2,r3⟩:=hW.row qd Q qc rfl
  have hQ:∀p,p∈Q↔p∈oj:=fun p=>(r3 p).trans (fu he p)
  have T9:Q.length≤3:=List.Nodup.length_le_of_subset (tV r2) (fun p hp=>(hQ p).1 hp)
  refine(qe W 0 qd qc Q r1 (by omega) (fun p hp=>Nat.le_trans (iX p ((hQ p).1 hp)) (by decide))).mono ?_
  rintro e w' ⟨T,rfl,hT⟩
  have h2:=hW.below hT.be
  refine⟨_,T,rfl,h2.be,h2.gl,h2.c0,h2.c1,h2.da,h2.row, ?_⟩
  intro gm' G' h
  simp only[Option.some.injEq,Prod.mk.injEq]at h
  obtain⟨rfl,rfl⟩:=h
  exact Me hT hQ r2
 have HOF:Hid (∀b q m W,NI w1 w0.heap.size (Ax.aH kl) (.slice rd l.length rc) (aS (l.map MR.ak)) b q m W→Calls Tryz.prog 60 #[.string (Ax.aH kl)] W fun e w'=>e=.returned (.agg (Rc.bB hd).toArray)∧NI w1 w0.heap.size (Ax.aH kl) (.slice rd l.length rc) (aS (l.map MR.ak)) b q m w'):=by
  intro b q m W hW
  rw[Fz]
  refine(Ew K (Ax.aH kl) W (hK.below (bk.trans (hW.be.mono bk.size))) (by omega)).mono ?_
  rintro e w' ⟨rfl,hb⟩
  exact⟨rfl,hW.below hb⟩
 have Hx:Hid (∀b q gm G W,NI w1 w0.heap.size (Ax.aH kl) (.slice rd l.length rc) (aS (l.map MR.ak)) b q (some (gm,G)) W→Calls Tryz.prog 57 #[.agg #[.string (Ax.aH kl),.slice rd l.length rc],.map (some gm),.agg (Rc.bB hd).toArray] W fun e w'=>∃hm,e=.returned (.tuple #[.agg (aI (Ax.aH kl) (.slice rd l.length rc) gm hm hd),.bool true])∧ve (aI (Ax.aH kl) (.slice rd l.length rc) gm hm hd) b w'∧NE w1 w0.heap.size kl (.slice rd l.length rc) (aS (l.map MR.ak)) b q gm hm G w'):=by
  intro b q gm G W hW
  obtain⟨g1,g2⟩:=hW.rA gm G rfl
  have cB:∀Q,Pd.lX Q→(∀p,p∈Q↔p∈aS (l.map MR.ak))→∃s,cg (l.map MR.ak) (cQ Q G)=some s∧En.Inv (En.sR (En.cF kl)) (En.gF (fun _=>false)) s s.found.length:=fun Q _ hQ=>oX he g2 g1.names hQ
  refine(Ep W _ rd rc l (C5.below hW.be) CS (Ck he) cL (fun p hp=>Nat.le_trans (iX p ((fu he p).1 hp)) (by decide)) gm G g1 ?_ (Nat.le_trans (g2.sum g1.names (fun t ht=>cl.ord (g1.bX t ht))) (by decide)) hd cN ?_).mono ?_
  · intro p hp
    obtain⟨t,ht,e,_⟩:=g2.has (p:=p.1) (n:=p.2) ((fu he p).1 hp)
    rw[←e]
    exact List.mem_map_of_mem ht
  · intro Q h1 h2
    obtain⟨s,e,_⟩:=cB Q h1 h2
    rw[e]
    rfl
  · rintro e w' ⟨hm,T,s,Q,rfl,m1,m2,m3,m4,m5,m6,m7⟩
    have h2:=hW.below m7
    obtain⟨s',e1,e2⟩:=cB Q m1 m2
    have hs:s'=s:=by
     rw[m3]at e1
     exact(Option.some.inj e1).symm
    subst hs
    refine⟨hm,rfl,RZ h2 (aQ _ _ _ _ cN) (gV _ _ _ _ _ _ _),h2,T,s',m4,e2, ?_, ?_⟩
    · intro p
      rw[m5,List.mem_reverse,m2]
      exact fu he p
    · intro x hx y hy
      obtain⟨_,Z,k2,_⟩:=hW.da x hx
      have k3:=lt_of_heap k2
      have:=m6 y hy
      omega
 have Zc:Hid (aB w1 rd rc l):=KQ
 have mQ:Hid (Below w.heap.size w w1):=bk
 have HE:Hid ((l.map MR.ak).map Ax.ke=Ax.gR kl):=he
 generalize aS (l.map MR.ak)=mS at*
 clear C5 KQ bk fY bK dQ he HRU sP fA hK ET cL Fz CS
 go_cut [8,9]from 20 (fun v8 v9 wx=>Hid (Zk w1 kl (.slice rd l.length rc) hd v8 v9 wx))
 case first=>
  go_region_held3 (fun w'=>w'.cell? ⟨w0.heap.size,0,none⟩=some (.string (Ax.aH kl))∧w'.cell? ⟨w0.heap.size,1,none⟩=some (.slice rd l.length rc)) (first | (exact NI.cells (by assumption)) | (exact NI.cells (NI.drew (by assumption))) | (exact NI.cells (NI.alloc (by assumption) rfl)) | (exact NI.cells (NI.alloc (NI.drew (by assumption)) rfl)) | (exact NI.cells (NE.ni (by assumption))) | (exact NI.cells (NE.ni (NE.alloc (by assumption) rfl))) | (exact NI.cells (NI.stored (NE.ni (by assumption)) (aQ _ _ _ _ cN))) | (exact NI.cells (NI.stored (NE.ni (NE.alloc (by assumption) rfl)) (aQ _ _ _ _ cN)))) (first | (go_at_call 59;refine(AJ.out _ _ (by first | assumption | exact NI.drew (by assumption) | exact NI.alloc (by assumption) rfl | exact NI.alloc (NI.drew (by assumption)) rfl)).mono ?_;rintro e wn ⟨qd,qc,Q,rfl,hN⟩) | (go_at_call 58;refine(HNG.out _ _ _ _ _ (by first | assumption | exact NI.drew (by assumption) | exact NI.alloc (by assumption) rfl | exact NI.alloc (NI.drew (by assumption)) rfl)).mono ?_;rintro e wn ⟨gm,G,rfl,hN⟩) | (go_at_call 60;refine(HOF.out _ _ _ _ (by first | assumption | exact NI.drew (by assumption) | exact NI.alloc (by assumption) rfl | exact NI.alloc (NI.drew (by assumption)) rfl)).mono ?_;rintro e wn ⟨rfl,hN⟩) | (go_at_call 57;refine(Hx.out _ _ _ _ _ (by first | assumption | exact NI.drew (by assumption) | exact NI.alloc (by assumption) rfl | exact NI.alloc (NI.drew (by assumption)) rfl)).mono ?_;rintro e wn ⟨hm,rfl,eo,hE⟩;unfold ve at eo;dsimp only at eo;(try simp only[World.size_drew]at eo);have cr:=aQ (Ax.aH kl) (.slice rd l.length rc) gm hm cN))
  all_goals
   (go_wp2_with fail
    go_meet
    first
    | exact NE.cut (by assumption) cN
    | exact NE.cut (NE.alloc (by assumption) rfl) cN)
 case rest=>
  obtain⟨hv9,x,gm,hm,G,T,s,hv8,hx,HQ⟩:=hcut.out
  subst hv9
  subst hv8
  have HQ':Hid _:=HQ
  have cr:=aQ (Ax.aH kl) (.slice rd l.length rc) gm hm cN
  clear hcut HQ
  go_wp2_with (refine wpList_load_row rfl _ _ rfl x rfl _ _ _ _ hx Tryz.underlying107 rfl (by rw[aQ _ _ _ _ cN];kernel_rfl) ?_)
  rw[Jk _ _ (aQ _ _ _ _ cN) rfl]
  have e9:((aI (Ax.aH kl) (.slice rd l.length rc) gm hm hd).toList++[Value.slice none 0 0]).toArray=bH (Ax.aH kl) (.slice rd l.length rc) gm hm hd (.slice none 0 0):=uL _ _ _ _ _
  have vN:=HQ'.out.2.2.2.2.2
  have Uw:Below w.heap.size w wc:=mQ.out.trans (vN.mono mQ.out.size)
  go_ret3
  refine⟨wc.heap.size,rfl, ?_,Uw.alloc Uw.size _⟩
  exact Qp Zc.out HE.out cN HQ'.out Uw.size
end
/- Engine.changed: the tables as facts come and go. -/
section
open Go.RowKit Go.Maps
theorem jY.update{w w':World}{gm:Nat}{A B:List GT}{t t':GT}(h:jY w gm (A++t::B))(hk:Kb t.bU w w')(ht:t'.ok w')(hn:t'.nm=t.nm)(hg:t'.g=t.g)(hf:∀b,b∈t'.bU→b∈t.bU∨w.heap.size≤b):jY w' gm (A++t'::B):=by
 have WD:t∈A++t::B:=by simp
 have mF:(A++t'::B).map GT.key=(A++t::B).map GT.key:=by simp[GT.key,hn,hg]
 have iG:(A++t'::B).map GT.nm=(A++t::B).map GT.nm:=by simp[hn]
 have Ff:=h.apart
 rw[List.pairwise_append,List.pairwise_cons]at Ff
 obtain⟨p1,⟨p2,p3⟩,p4⟩:=Ff
 have aC:∀u,u∈A++t::B→∀b,b∈u.bU→b<w.heap.size:=fun u hu b hb=>(h.bX u hu).lt hb
 have hA:∀a,a∈A→∀x,x∈a.bU→¬x∈t.bU:=fun a ha=>p4 a ha t (by simp)
 have hB:∀a,a∈B→∀x,x∈a.bU→¬x∈t.bU:=fun a ha x hx h2=>p2 a ha x h2 hx
 refine⟨?_, ?_, ?_,by rw[iG];exact h.names, ?_⟩
 · rw[mF]
   refine h.map.kept hk ?_
   intro hb
   obtain⟨cur,T,e,_⟩:=(h.bX t WD).types hb
   obtain⟨es,ck,e2⟩:=h.map.block
   rw[e2]at e
   cases e
 · intro u hu
   rcases List.mem_append.1 hu with hu | hu
   · exact(h.bX u (by simp[hu])).kept hk (hA u hu)
   · rcases List.mem_cons.1 hu with rfl | hu
     · exact ht
     · exact(h.bX u (by simp[hu])).kept hk (hB u hu)
 · rw[List.pairwise_append,List.pairwise_cons]
   refine⟨p1,⟨?_,p3⟩, ?_⟩
   · intro a ha x hx h2
     rcases hf x hx with h3 | h3
     · exact p2 a ha x h3 h2
     · have:=aC a (by simp[ha]) x h2;omega
   · intro a ha b hb x hx h2
     rcases List.mem_cons.1 hb with rfl | hb
     · rcases hf x h2 with h3 | h3
       · exact hA a ha x hx h3
       · have:=aC a (by simp[ha]) x hx;omega
     · exact p4 a ha b (by simp[hb]) x hx h2
 · intro u hu
   rcases List.mem_append.1 hu with hu | hu
   · exact h.short u (by simp[hu])
   · rcases List.mem_cons.1 hu with rfl | hu
     · rw[hn];exact h.short t WD
     · exact h.short u (by simp[hu])
theorem jh.update{A B:List GT}{t t':GT}{gv:Nat→Bool}(h:jh (A++t::B) gv)(vz:((A++t::B).map GT.nm).Nodup)(hn:t'.nm=t.nm)(hp:t'.pl=t.pl){i:Nat}(hi:i<36){r0:List ByteArray}(hu:En.uF i=(t.nm,r0))(b:Bool)(hr:∀r,r∈t'.L↔if r=r0 then b=true else r∈t.L):jh (A++t'::B) (jR gv i b):=by
 have l6:(A++t'::B).map oI=(A++t::B).map oI:=by simp[oI,hn,hp]
 refine⟨by rw[l6];exact h.mS, ?_⟩
 have hu0:=hu
 have sQ:∀u,u∈A++t::B→u.nm≠t.nm→∀r,r∈u.L↔∃j,j<36∧jR gv i b j=true∧En.uF j=(u.nm,r):=by
  intro u hu cL r
  rw[h.rows u hu r]
  constructor
  · rintro⟨j,hj,hg,e⟩
    refine⟨j,hj, ?_,e⟩
    unfold jR
    rw[if_neg ?_]
    · exact hg
    · rintro rfl
      rw[hu0]at e
      exact cL (congrArg Prod.fst e).symm
  · rintro⟨j,hj,hg,e⟩
    refine⟨j,hj, ?_,e⟩
    unfold jR at hg
    rw[if_neg ?_]at hg
    · exact hg
    · rintro rfl
      rw[hu0]at e
      exact cL (congrArg Prod.fst e).symm
 rw[List.map_append,List.map_cons,List.nodup_append,List.nodup_cons]at vz
 intro u vv r
 rcases List.mem_append.1 vv with vv | vv
 · refine sQ u (by simp[vv]) ?_ r
   intro e
   exact vz.2.2 u.nm (List.mem_map_of_mem vv) t.nm (by simp) e
 · rcases List.mem_cons.1 vv with rfl | vv
   · rw[hr r,hn]
     by_cases hrr:r=r0
     · rw[if_pos hrr]
       subst hrr
       constructor
       · intro hb
         exact⟨i,hi,by simp[jR,hb],hu⟩
       · rintro⟨j,hj,hg,e⟩
         rw[←hu]at e
         have:=En.CI hj hi e
         subst this
         simpa [jR]using hg
     · rw[if_neg hrr,h.rows t (by simp) r]
       have Xi:∀j,En.uF j=(t.nm,r)→¬j=i:=by
        rintro j e rfl
        rw[hu]at e
        exact hrr (congrArg Prod.snd e).symm
       constructor
       · rintro⟨j,hj,hg,e⟩
         exact⟨j,hj,by unfold jR;rw[if_neg (Xi j e)];exact hg,e⟩
       · rintro⟨j,hj,hg,e⟩
         unfold jR at hg
         rw[if_neg (Xi j e)]at hg
         exact⟨j,hj,hg,e⟩
   · refine sQ u (by simp[vv]) ?_ r
     intro e
     exact vz.2.1.1 (by rw[←e];exact List.mem_map_of_mem vv)
structure yS(w wr:World)(gm:Nat)(gv:Nat→Bool):Prop where
 at_:∃N,jY wr gm N∧jh N gv∧∀b,b∈ev gm N→w.heap.size≤b
 be:Below w.heap.size w wr
theorem yS.below{w wr w':World}{gm:Nat}{gv:Nat→Bool}(h:yS w wr gm gv)(hb:Below wr.heap.size wr w'):yS w w' gm gv:=by
 obtain⟨N,h1,h2,h3⟩:=h.at_
 exact⟨⟨N,h1.below hb,h2,h3⟩,h.be.trans (hb.mono h.be.size)⟩
theorem yS.set{w wr w':World}{gm:Nat}{gv:Nat→Bool}{A B:List GT}{t t':GT}(hb:Below w.heap.size w wr)(h1:jY wr gm (A++t::B))(h2:jh (A++t::B) gv)(h3:∀b,b∈ev gm (A++t::B)→w.heap.size≤b)
 (hk:Kb t.bU wr w')(ht:t'.ok w')(hn:t'.nm=t.nm)(hg:t'.g=t.g)(hp:t'.pl=t.pl)(hf:∀b,b∈t'.bU→b∈t.bU∨wr.heap.size≤b){i:Nat}(hi:i<36){r0:List ByteArray}(hu:En.uF i=(t.nm,r0))(b:Bool)(hr:∀r,r∈t'.L↔if r=r0 then b=true else r∈t.L):yS w w' gm (jR gv i b):=by
 have za:∀x,x∈t.bU→w.heap.size≤x:=fun x hx=>h3 x (by unfold ev;simp[hx])
 refine⟨⟨A++t'::B,h1.update hk ht hn hg hf,h2.update h1.names hn hp hi hu b hr, ?_⟩,hk.aK hb hb.size za⟩
 intro x hx
 unfold ev at hx
 rw[List.mem_cons,List.mem_flatMap]at hx
 rcases hx with rfl | ⟨u,vv,hx⟩
 · exact h3 x (by simp[ev])
 · rcases List.mem_append.1 vv with vv | vv
   · exact h3 x (by unfold ev;rw[List.mem_cons,List.mem_flatMap];exact .inr ⟨u,by simp[vv],hx⟩)
   · rcases List.mem_cons.1 vv with rfl | vv
     · rcases hf x hx with h4 | h4
       · exact za x h4
       · have:=hb.size;omega
     · exact h3 x (by unfold ev;rw[List.mem_cons,List.mem_flatMap];exact .inr ⟨u,by simp[vv],hx⟩)
def aq(gv:Nat→Bool)(is:List Nat)(b:Bool):Nat→Bool:=is.foldl (fun g i=>jR g i b) gv
theorem iC(gv:Nat→Bool)(is:List Nat)(i:Nat)(b:Bool):aq gv (is++[i]) b=jR (aq gv is b) i b:=by simp[aq]
end
/- Engine.changed, walked. -/
section
open Go.RowKit Go.Maps
theorem BC(rd:Option Addr)(n m rc:Nat):(Value.slice rd n rc).ownBlock=(Value.slice rd m rc).ownBlock:=by cases rd<;>rfl
def mM(l:List FI)(is:List Nat):Prop:=l.map (fun f=>(f.pred,f.args))=is.map cP∧∀i,i∈is→i<36
theorem mM.len{l:List FI}{is:List Nat}(h:mM l is):is.length=l.length:=by
 have:=congrArg List.length h.1
 simpa using this.symm
theorem mM.at_{l:List FI}{is:List Nat}(h:mM l is){k:Nat}(hk:k<l.length):∃i,is.take (k+1)=is.take k++[i]∧i<36∧(l[k]).pred=(cP i).1∧(l[k]).args=(cP i).2:=by
 have hki:k<is.length:=by rw[h.len];exact hk
 refine⟨is[k],by rw[List.take_add_one,List.getElem?_eq_getElem hki];rfl,h.2 _ (List.getElem_mem hki), ?_⟩
 have e:=congrArg (fun x=>x[k]?) h.1
 simp only[List.getElem?_map,List.getElem?_eq_getElem hk,List.getElem?_eq_getElem hki,Option.map_some,Option.some.injEq]at e
 exact⟨congrArg Prod.fst e,congrArg Prod.snd e⟩
structure ChR(w wr:World)(eg gm:Nat)(gv:Nat→Bool)(p:ByteArray)(av:Value)(names:List ByteArray)(i tg:Nat):Prop where
 row:∀W,Below wr.heap.size wr W→Calls Tryz.prog 41 #[.pointer (some ⟨eg,0,none⟩),.agg #[.string p,av]] W fun e w'=>e=.returned (.tuple #[.agg (Tb.dE names),.bool true])∧Below W.heap.size W w'
 look:∀W,Below wr.heap.size wr W→(Instr.lookup 102 (.map (some gm)) (.string p) false).run Tryz.prog W=.ok (.pointer (some ⟨tg,0,none⟩)) W
 dO:∀W,Below wr.heap.size wr W→Calls Tryz.prog 127 #[.pointer (some ⟨tg,0,none⟩),.agg (Tb.dE names)] W fun e w'=>e=.returned (.tuple #[])∧yS w w' gm (jR gv i true)
 leave:∀W,Below wr.heap.size wr W→Calls Tryz.prog 128 #[.pointer (some ⟨tg,0,none⟩),.agg (Tb.dE names)] W fun e w'=>e=.returned (.tuple #[])∧yS w w' gm (jR gv i false)
theorem Ux{w wr:World}{eg gm hm:Nat}{gv:Nat→Bool}{T:List HT}{s:En.cU En.bE}(uP:w.cell? ⟨eg,3,none⟩=some (.map (some hm)))(hH:p5 w hm T s)(hT:∀p,p∈T.map iR↔p∈oj)(hU:fw w)(h:yS w wr gm gv){i:Nat}(hi:i<36){av:Value}(xq:wr.ownsRow 0 9 1 av (cP i).2.length (strCells (cP i).2)):
 ∃tg,ChR w wr eg gm gv (cP i).1 av (cP i).2 i tg:=by
 obtain⟨N,hG,hR,hf⟩:=h.at_
 have l6:=te hi
 obtain⟨t,ht,iG,lu⟩:=hR.has l6
 obtain⟨u,hu,vv⟩:=List.mem_map.1 ((hT _).2 l6)
 simp only[iR,Prod.mk.injEq]at vv
 have uK:(cP i).1.size≤1000000:=Nat.le_trans (iX _ l6) (by decide)
 have hlL:t.L.length≤36:=Nat.le_trans (rL ht) (hR.sum hG.names (fun t ht=>cl.ord (hG.bX t ht)))
 obtain⟨A,B,WL⟩:=List.append_of_mem ht
 subst WL
 refine⟨t.g,⟨?_, ?_, ?_, ?_⟩⟩
 · intro W hW
   have sK:Below w.heap.size w W:=h.be.trans (hW.mono h.be.size)
   have h3:(cP i).2.length≤3:=by
    have:∀p,p∈oj→p.2≤3:=by unfold oj;decide
    exact this _ l6
   refine Oq W eg hm u.g (cP i).2.length (T.map HT.pk) (cP i).1 (cP i).2 av (by rw[sK.cell (block_lt_of_cell uP)];exact uP) (hH.map.below sK) (by rw[←vv.1];exact rQ hH.names hu) uK ?_ (af xq hW) rfl h3 (fun a ha=>(ks i a ha).1) (fun a ha=>Nat.le_trans (ks i a ha).2 (by decide)) (Utf8Tabs_below hU sK)
   have:=(((hH.bX u hu).below sK).ot).lB.2.2.1
   rw[vv.2]at this
   exact this
 · intro W hW
   exact(hG.below hW).map.look (by rw[←iG];exact iT hG.names (by simp)) uK Tryz.underlying102 (Tryz.zeroValue122 W)
 · intro W hW
   refine(Da W t.g t.nm t.pl t.rd t.rc t.L _ _ _ ((hG.below hW).bX t (by simp)) (by omega)).mono ?_
   rintro e w' ⟨rd',rc',rfl,q1,q2,q3⟩
   refine⟨rfl, ?_⟩
   refine yS.set (t':=⟨t.nm,t.pl,t.g,rd',rc',Tb.put t.L (Tb.dh (cP i).2)⟩) (h.be.trans (hW.mono h.be.size)) (hG.below hW) hR hf q2 q1 rfl rfl rfl ?_ hi (r0:=Tb.dh (cP i).2) (by rw[tR,iG]) true ?_
   · intro b hb
     unfold GT.bU at hb
     rcases List.mem_cons.1 hb with rfl | hb
     · exact .inl (by simp[GT.bU])
     · rw[Option.mem_toList]at hb
       rcases q3 b hb with h5 | h5
       · exact .inl (by unfold GT.bU;rw[List.mem_cons,Option.mem_toList];exact .inr h5)
       · exact .inr h5
   · intro r
     show r∈Tb.put t.L (Tb.dh (cP i).2)↔_
     rw[Tb.sA]
     by_cases e:r=Tb.dh (cP i).2
     · simp[e]
     · simp[e]
 · intro W hW
   refine(K7 W t.g t.nm t.pl t.rd t.rc t.L _ _ _ ((hG.below hW).bX t (by simp)) (by omega)).mono ?_
   rintro e w' ⟨rfl,q1,q2⟩
   refine⟨rfl, ?_⟩
   have Oj:Tb.Ord t.L:=cl.ord (hG.bX t (by simp))
   refine yS.set (t':=⟨t.nm,t.pl,t.g,t.rd,t.rc,Tb.leave t.L (Tb.dh (cP i).2)⟩) (h.be.trans (hW.mono h.be.size)) (hG.below hW) hR hf q2 q1 rfl rfl rfl ?_ hi (r0:=Tb.dh (cP i).2) (by rw[tR,iG]) false ?_
   · intro b hb
     refine .inl ?_
     unfold GT.bU at hb ⊢
     rcases List.mem_cons.1 hb with rfl | hb
     · simp
     · rw[Option.mem_toList]at hb
       rw[List.mem_cons,Option.mem_toList]
       exact .inr ((BC _ _ _ _).trans hb)
   · intro r
     show r∈Tb.leave t.L (Tb.dh (cP i).2)↔_
     rw[Tb.KR Oj]
     by_cases e:r=Tb.dh (cP i).2
     · simp[e]
     · simp[e]
end
end Go.Proofs.YtdmicblafmhflaaGreatDoor

/- Package follow: Model, walked. -/
import Derived.Test.YtdmicblafmhflaaGreatDoorC28
import Derived.Test.YtdmicblafmhflaaGreatDoorC13
import Derived.Laws.IdiomStrings
set_option linter.unusedSimpArgs false
set_option linter.unusedVariables false
set_option maxHeartbeats 4000000
set_option maxRecDepth 100000
namespace Go.Proofs.YtdmicblafmhflaaGreatDoor
section
open Go.RowKit Go.Maps Go.WideMaps Go.WideElems
open Go.Sort (grow)
theorem Tryz.BH(w:World):(zeroValue 122).run Tryz.prog w=.ok (.pointer none) w:=by kernel_rfl
def mstart(rs:List Ax.br)(gl:List En.cg):En.dB En.cg:=En.holds (En.cL En.cD gl) (rs.flatMap En.eF)
def fk(rs:List Ax.br)(gl:List En.cg):Option (En.dB En.cg):=En.search (rs.map En.cU) 200 202 0 (mstart rs gl)
structure UL(w1:World)(rv:Value)(Q:List Pd.Pr)(v:Value)(wx:World):Prop where
 out:∃sb mb T,v=.pointer (some ⟨sb,0,none⟩)∧mL wx sb mb rv none 0 T En.cD∧T.map ic=Q.reverse∧w1.heap.size≤mb∧(∀b,b∈dz sb none 0 0 T→w1.heap.size≤b)∧Below w1.heap.size w1 wx
theorem TB{w1 W w2:World}{Q:List Pd.Pr}{T:List HT}{rv:Value}(hT:kD W w2 W.heap.size Q.length Q T)(hW:W.heap.size=w1.heap.size)(hb:Below w1.heap.size w1 W)(hn:(Q.map Prod.fst).Nodup)(hs:∀p,p∈Q→p.1.size≤1000000)(hq:Q.length≤1000):
 UL w1 rv Q (.pointer (some ⟨w2.heap.size,0,none⟩)) (w2.alloc (.cells #[rv,.map (some w1.heap.size),.slice none 0 0] 322)):=by
 rw[hW]at hT
 have mw:=hT.aZ
 obtain⟨h1,h2⟩:=uC (rv:=rv) (sb:=w2.heap.size) hT hn hs hq ((Kb.refl _ _).alloc _) (.inr (Nat.le_refl _)) (heap_alloc_new _ _)
 refine⟨_,_,T,rfl,h1,by rw[hT.nJ,List.take_length],Nat.le_refl _,fun b xg=> ?_, ?_⟩
 · rcases h2 b xg with e | e
   · rw[e];have:=mw.size;omega
   · omega
 · exact(hb.trans (mw.mono (by omega))).alloc (by have:=mw.size;omega) _
theorem Mt{w1 W w2:World}{Q:List Pd.Pr}{T:List HT}{rv:Value}(hT:kD W w2 W.heap.size Q.length Q T)(hW:W.heap.size=w1.heap.size+1)(hb:Below w1.heap.size w1 W)(hz:w2.heap[w1.heap.size]?=some (.cells #[.slice none 0 0,.map none,.slice none 0 0] 322 (0,0)))(hn:(Q.map Prod.fst).Nodup)(hs:∀p,p∈Q→p.1.size≤1000000)(hq:Q.length≤1000):
 UL w1 rv Q (.pointer (some ⟨w1.heap.size,0,none⟩)) (((w2.setCell ⟨w1.heap.size,0,none⟩ rv).setCell ⟨w1.heap.size,1,none⟩ (.map (some (w1.heap.size+1)))).setCell ⟨w1.heap.size,2,none⟩ (.slice none 0 0)):=by
 rw[hW]at hT
 have mw:=hT.aZ
 have k1:Kb [w1.heap.size] w2 (((w2.setCell ⟨w1.heap.size,0,none⟩ rv).setCell ⟨w1.heap.size,1,none⟩ (.map (some (w1.heap.size+1)))).setCell ⟨w1.heap.size,2,none⟩ (.slice none 0 0)):=((Kb.setCell w2 ⟨w1.heap.size,0,none⟩ rv).trans (Kb.setCell _ ⟨w1.heap.size,1,none⟩ _)).trans (Kb.setCell _ ⟨w1.heap.size,2,none⟩ _)
 have hblk:(((w2.setCell ⟨w1.heap.size,0,none⟩ rv).setCell ⟨w1.heap.size,1,none⟩ (.map (some (w1.heap.size+1)))).setCell ⟨w1.heap.size,2,none⟩ (.slice none 0 0)).heap[w1.heap.size]?=some (.cells #[rv,.map (some (w1.heap.size+1)),.slice none 0 0] 322 (0,0)):=by
  rw[an _ (an _ (an w2 hz 0 rv) 1 _) 2]
  rfl
 obtain⟨h1,h2⟩:=uC (rv:=rv) (sb:=w1.heap.size) hT hn hs hq k1 (.inl (by omega)) hblk
 refine⟨_,_,T,rfl,h1,by rw[hT.nJ,List.take_length],by omega,fun b xg=> ?_, ?_⟩
 · rcases h2 b xg with e | e
   · omega
   · omega
 · exact k1.aJ (hb.trans (mw.mono (by omega))) (by have:=mw.size;omega) (by simp)
structure U5(w1:World)(rs:List Ax.br)(Q:List Pd.Pr)(G:List GT)(e:Ending)(w':World):Prop where
 aZ:Below w1.heap.size w1 w'
 ans:(∃hm T s,e=.returned (.tuple #[.map (some hm),.bool true])∧fk rs (dm Q G)=some s∧pH w' hm T s∧T.map ic=Q.reverse∧(∀b,b∈cK hm T→w1.heap.size≤b))∨
  (e=.returned (.tuple #[.map none,.bool false])∧fk rs (dm Q G)=none)
structure Io(w1 wr:World)(sb mb:Nat)(rv:Value)(K:List (ByteArray×Nat×Nat))(R:List (En.eo En.cg))(n:Nat)(s:En.dB En.cg)(PQ:Option (En.dB En.cg)):Prop where
 rel:vp w1 wr sb mb rv K s
 res:En.search R 200 (202-n) n s=PQ
 le:n≤200
 found:s.found.length≤30000
 count:∀f,s.count f≤8+n*4000
theorem zC{l:List MR}(zK:l.length≤8){gl:List En.cg}(hg:gl.length≤24000):(mstart (l.map MR.aw) gl).found.length≤30000∧∀f,(mstart (l.map MR.aw) gl).count f≤8:=by
 have h1:=En.qt ((l.map MR.aw).flatMap En.eF) (En.cL En.cD gl)
 have h2:((l.map MR.aw).flatMap En.eF).length≤8:=by
  rw[En.te]
  have:=En.Ig ((l.map MR.aw).map En.cU)
  rw[List.length_map,List.length_map]at this
  omega
 have h3:=En.mf gl (En.cD (F:=En.cg))
 have h4:(En.cD (F:=En.cg)).found.length=0:=rfl
 unfold mstart
 refine⟨by have:=h1.1;omega,fun f=> ?_⟩
 have h5:=h1.2 f
 rw[En.lK]at h5
 have:(En.cD (F:=En.cg)).count f=0:=rfl
 omega
theorem Mp{l:List MR}(zK:l.length≤8)(h2:∀r,r∈l→r.body.length≤2){n:Nat}{s:En.dB En.cg}(hn:n<s.found.length)(hf:s.found.length≤200)(hc:∀f,s.count f≤8+n*4000):
 ((l.map MR.aw).flatMap (En.bD (s.found.take n) s.found[n])).length≤3208∧En.holds s ((l.map MR.aw).flatMap (En.bD (s.found.take n) s.found[n]))=En.meet ((l.map MR.aw).map En.cU) s n∧
   (En.meet ((l.map MR.aw).map En.cU) s n).found.length≤30000∧∀f,(En.meet ((l.map MR.aw).map En.cU) s n).count f≤8+(n+1)*4000:=by
 have e:=FY (P:=s.found.take n) (z:=s.found[n]) h2
 have hlen:((l.map MR.aw).flatMap (En.bD (s.found.take n) s.found[n])).length≤3208:=by
  rw[e]
  have h1:=En.A5 (s.found.take n) s.found[n] ((l.map MR.aw).map En.cU)
  simp only[List.length_map,List.length_take]at h1
  have h3:min n s.found.length=n:=Nat.min_eq_left (by omega)
  rw[h3]at h1
  have h4:l.length*(2*n+1)≤8*401:=Nat.mul_le_mul zK (by omega)
  omega
 have hm:En.holds s ((l.map MR.aw).flatMap (En.bD (s.found.take n) s.found[n]))=En.meet ((l.map MR.aw).map En.cU) s n:=by rw[En.QG hn,e]
 have hb:=En.qt ((l.map MR.aw).flatMap (En.bD (s.found.take n) s.found[n])) s
 refine⟨hlen,hm, ?_,fun f=> ?_⟩
 · rw[←hm];have:=hb.1;omega
 · rw[←hm];have h5:=hb.2 f;have h6:=hc f;omega
end
section
open Go.RowKit Go.Maps Go.WideMaps Go.WideElems
open Go.Sort (grow)
theorem Je(w:World)(pl:ByteArray)(rd:Option Addr)(rc:Nat)(l:List MR)(hl:fu w rd rc l)(zK:l.length≤8)(h1:Pd.One (bP (l.map MR.aw)))(cA:l≠[])(cE:∀p,p∈bP (l.map MR.aw)→p.1.size≤1000000)
 (gm:Nat)(G:List GT)(hG:lJ w gm G)(P2:∀p,p∈bP (l.map MR.aw)→p.1∈G.map GT.nm)(hGt:∀t,t∈G→t.L.length≤1000):
 Calls Tryz.prog 111 #[.agg #[.string pl,.slice rd l.length rc],.map (some gm)] w fun e w'=>∃Q,Hid (Pd.vG Q∧∀p,p∈Q↔p∈bP (l.map MR.aw))∧U5 w (l.map MR.aw) Q G e w':=by
 obtain⟨w0,cZ⟩:∃w0,w0=w.alloc (.cells #[.string pl,.slice rd l.length rc] 101):=⟨_,rfl⟩
 have bL:Below w.heap.size w w0:=by rw[cZ];exact(Below.refl _ _).alloc (Nat.le_refl _) _
 have mZ:w0.heap[w.heap.size]?=some (.cells #[.string pl,.slice rd l.length rc] 101 (0,0)):=by rw[cZ];exact heap_alloc_new w _
 have x0:w0.cell? ⟨w.heap.size,0,none⟩=some (.string pl):=by rw[cell_of_row _ _ 0 _ _ _ mZ];rfl
 have x1:w0.cell? ⟨w.heap.size,1,none⟩=some (.slice rd l.length rc):=by rw[cell_of_row _ _ 1 _ _ _ mZ];rfl
 have nO:Hid (Calls Tryz.prog 59 #[.agg #[.string pl,.slice rd l.length rc]] w0 fun e w1=>∃qd qc Q,e=.returned (.slice qd (List.length Q) qc)∧w1.cell? ⟨w.heap.size,1,none⟩=some (.slice rd l.length rc)∧w.heap.size<w1.heap.size∧Hid (w1.ownsRow 0 112 2 (.slice qd Q.length qc) Q.length (aB Q)∧Below w.heap.size w w1∧Pd.vG Q∧∀p,p∈Q↔p∈bP (l.map MR.aw))):=by
  refine(mc w0 pl rd rc l (hl.CC.below bL) (by omega) h1 cA).mono ?_
  rintro e w1 ⟨qd,qc,Q,rfl,q1,q2,q3⟩
  have aE:=lt_of_heap mZ
  exact⟨qd,qc,Q,rfl,by rw[q2.cell aE];exact x1,Nat.lt_of_lt_of_le aE q2.size,aG q1 (Nat.zero_le _),bL.trans (q2.mono bL.size),q3.out.1,q3.out.2⟩
 have Rj:Hid (∀p,p∈bP (l.map MR.aw)→p.1.size≤1000000):=cE
 have HGN:Hid (∀p,p∈bP (l.map MR.aw)→p.1∈G.map GT.nm):=P2
 have HGT:Hid (∀t,t∈G→t.L.length≤1000):=hGt
 have HL:Hid (fu w rd rc l):=hl
 have HG:Hid (lJ w gm G):=hG
 have hle:=bh hl.CC.1
 have H3:Hid ((bP (l.map MR.aw)).length≤24):=by have:=Fg hl.two;exact(by omega:(bP (l.map MR.aw)).length≤24)
 clear h1 cA cE P2 hGt hl hG mZ
 go_enter Tryz.func111,Tryz.ntmps111
 go_upto_region 1 with fail
 rw[←cZ]
 clear cZ
 go_upto_region 2 with(go_at_call 59;refine nO.out.mono ?_;rintro e w1 ⟨qd,qc,Q,rfl,y1,Od,HQ⟩)
 have hQl:Q.length≤24:=Nat.le_trans (zW _ _ (th HQ.out.2.2.1) (fun p hp=>(HQ.out.2.2.2 p).1 hp)) H3.out
 have hnh:Hid (∀W:World,Below w1.heap.size w1 W→Calls Tryz.prog 186 #[.slice qd Q.length qc] W fun e w2=>∃T,e=.returned (.map (some W.heap.size))∧Hid (kD W w2 W.heap.size Q.length Q T)∧w2.cell? ⟨w.heap.size,1,none⟩=some (.slice rd l.length rc)∧w.heap.size<w2.heap.size∧Below W.heap.size W w2):=by
  intro W hW
  refine(yY W 0 qd qc Q (ae HQ.out.1 hW) (by omega) (fun p hp=>Rj.out p ((HQ.out.2.2.2 p).1 hp))).mono ?_
  rintro e w2 ⟨T,rfl,hT⟩
  have vk:=hT.aZ
  refine⟨T,rfl,hT, ?_,Nat.lt_of_lt_of_le Od (Nat.le_trans hW.size vk.size),vk⟩
  rw[vk.cell (Nat.lt_of_lt_of_le Od hW.size),hW.cell Od]
  exact y1
 go_cut [7]from 15 (fun v wx=>Hid (UL w1 (.slice rd l.length rc) Q v wx))
 case first=>
  go_region_with (go_at_call 186;refine(hnh.out _ (by first | exact(Below.refl _ _).drew | exact((Below.refl _ _).drew).alloc (Nat.le_refl _) _)).mono ?_;rintro e w2 ⟨T,rfl,HT,y2,oc,cM⟩;try (have hzz:=Di (w1:=w1) (by exact rfl) cM;obtain⟨hz,z0,z1,z2,f0,f1,f2,hzl⟩:=hzz))
  all_goals
   (go_wp2_with fail
    go_meet
    first
    | exact TB HT.out rfl ((Below.refl _ _).drew) (oZ HQ.out.2.2.1) (fun p hp=>Rj.out p ((HQ.out.2.2.2 p).1 hp)) (by omega)
    | exact Mt HT.out (by simp) (((Below.refl _ _).alloc (Nat.le_refl _) _).drew) hz (oZ HQ.out.2.2.1) (fun p hp=>Rj.out p ((HQ.out.2.2.2 p).1 hp)) (by omega)
    | exact Mt HT.out (by simp) (((Below.refl _ _).drew).alloc (Nat.le_refl _) _) hz (oZ HQ.out.2.2.1) (fun p hp=>Rj.out p ((HQ.out.2.2.2 p).1 hp)) (by omega))
 case rest=>
  obtain⟨sb,mb,T0,rfl,E9,WM,Pz,Zo,a8⟩:=ko.out.out
  have mM:Hid (Below w.heap.size w w1):=HQ.out.2.1
  have UQ:Hid (T0.map ic=Q.reverse):=WM
  have HM0:Hid (vp w1 wc sb mb (.slice rd l.length rc) (T0.map HT.key) En.cD):=⟨⟨none,0,T0,E9,rfl,Zo⟩,a8⟩
  have HQR:Hid (w1.ownsRow 0 112 2 (.slice qd Q.length qc) Q.length (aB Q)):=HQ.out.1
  have mO:Hid ((dm Q G).length≤24000):=by have:=OL (Q:=Q) HGT.out;exact(by omega:(dm Q G).length≤24000)
  have N4:=bh HQ.out.1
  clear ko E9 WM Zo a8 hnh x0 x1 y1
  go_wp2_with fail
  go_loopw [22] (fun i wr=>∃k:Nat,k≤Q.length∧i=.int .i64 k∧vp w1 wr sb mb (.slice rd l.length rc) (T0.map HT.key) (En.cL En.cD (dm (Q.take k) G))) (fun i _=>Q.length-(intOf i).toNat)
  case atStart=>exact⟨0,Nat.zero_le _,rfl,HM0.out⟩
  case round=>
   obtain⟨k,hk,rfl,hm⟩:=hrel
   have HM:Hid (vp w1 wr sb mb (.slice rd l.length rc) (T0.map HT.key) (En.cL En.cD (dm (Q.take k) G))):=hm
   clear hm HM0
   obtain⟨wA,rfl⟩:∃x,x=wr:=⟨_,rfl⟩
   by_cases aE:k<Q.length
   · have F3:Hid (wA.ownsRow 0 112 2 (.slice qd Q.length qc) Q.length (aB Q)):=ae HQR.out HM.out.aZ
     obtain⟨g,rfl,hg,hc,bH⟩:=aD F3.out (by omega)
     have c0:=bH _ _ (aT Q k aE).1
     have c1:=bH _ _ (aT Q k aE).2
     have CE:Hid (Below w.heap.size w wA):=mM.out.trans (HM.out.aZ.mono mM.out.size)
     obtain⟨t,TY,yx⟩:∃t,t∈G∧t.nm=(Q[k]).1:=by
      obtain⟨t,ht,e⟩:=List.mem_map.1 (HGN.out Q[k] ((HQ.out.2.2.2 _).1 (List.getElem_mem aE)))
      exact⟨t,ht,e⟩
     have IB:Hid (dm (Q.take (k+1)) G=dm (Q.take k) G++t.L.map fun r=>(t.nm,r)):=by
      have e:=Lq aE G
      rw[←yx,qi HG.out.names TY]at e
      exact e
     have HTM:Hid (t.nm∈T0.map HT.nm):=by
      have e:T0.map HT.nm=(T0.map ic).map Prod.fst:=by rw[List.map_map];rfl
      rw[e,UQ.out,yx]
      exact List.mem_map.2 ⟨Q[k],by simp,rfl⟩
     have Ta:Hid (t.L.length≤1000):=HGT.out t TY
     have RW:Hid ((En.cL (En.cD (F:=En.cg)) (dm (Q.take k) G)).found.length≤24000):=by
      have h1:=En.mf (dm (Q.take k) G) (En.cD (F:=En.cg))
      have h2:=zg Q k G
      have h3:=mO.out
      have h4:(En.cD (F:=En.cg)).found.length=0:=rfl
      have h5:(En.cL (En.cD (F:=En.cg)) (dm (Q.take k) G)).found.length≤24000:=by omega
      exact h5
     have H3L:Hid (pZ t.L):=(cp.rows (HG.out.b8 t TY)).three
     rw[←yx]at c0
     have nS:∀W:World,Below wA.heap.size wA W→(Instr.lookup 102 (.map (some gm)) (.string t.nm) false).run Tryz.prog W=.ok (.pointer (some ⟨t.g,0,none⟩)) W:=fun W hW=>((HG.out.below CE.out).below hW).map.look (iH HG.out.names TY) (HG.out.short t TY) Tryz.underlying102 (Tryz.BH W)
     have LU:=nS (wA.alloc (.cells #[.string t.nm,.int .i64 (Q[k]).2] 112)) ((Below.refl _ _).alloc (Nat.le_refl _) _)
     have DG:Hid (∀W,Below wA.heap.size wA W→Calls Tryz.prog 133 #[.pointer (some ⟨t.g,0,none⟩)] W fun e w2=>∃rd' rc',e=.returned (.slice rd' t.L.length rc')∧w2.ownsRow W.heap.size 119 3 (.slice rd' t.L.length rc') t.L.length (aM t.L)∧Below W.heap.size W w2):=fun W hW=>xP W t.g _ t.nm t.pl t.rd t.rc t.L [] (((HG.out.below CE.out).below hW).b8 t TY) (by have:=Ta.out;omega)
     generalize (Q[k]).2=pp at c1 LU
     clear bH nS yx TY
     go_wp2_with (go_at_call 133;refine(DG.out _ (by exact(Below.refl _ _).alloc (Nat.le_refl _) _)).mono ?_;rintro e w2 ⟨rd',rc',rfl,me,cM⟩)
     have Va:Below wA.heap.size wA w2:=((Below.refl _ _).alloc (Nat.le_refl _) _).trans (cM.mono (by simp))
     have QX:Hid (w2.heap[wA.heap.size]?=some (.cells #[.string t.nm,.int .i64 pp] 112 (0,0))):=by
      rw[cM.block _ (by simp)]
      exact heap_alloc_new _ _
     obtain⟨fd,fc,T,Nv,ur,Gh⟩:=HM.out.at_
     have Iq:Hid (mL w2 sb mb (.slice rd l.length rc) fd fc T (En.cL En.cD (dm (Q.take k) G))):=Nv.below Va
     have HNF:Hid (∀b,b∈dz sb fd fc (En.cL (En.cD (F:=En.cg)) (dm (Q.take k) G)).found.length T→b<wA.heap.size):=fun b hb=>by
      obtain⟨cur,U,e,_⟩:=lD Nv hb
      exact lt_of_heap e
     have HK:Hid (T.map HT.key=T0.map HT.key):=ur
     have HF:Hid (∀b,b∈dz sb fd fc (En.cL (En.cD (F:=En.cg)) (dm (Q.take k) G)).found.length T→w1.heap.size≤b):=Gh
     have Y6:Hid (Below w1.heap.size w1 w2):=HM.out.aZ.trans (Va.mono HM.out.aZ.size)
     have SR:Hid (w2.ownsRow (wA.heap.size+1) 119 3 (.slice rd' t.L.length rc') t.L.length (aM t.L)):=by
      have:=me
      rw[World.size_alloc]at this
      exact this
     have ajr:=bh me
     have SF:Hid (∀f,(En.cL (En.cD (F:=En.cg)) (dm (Q.take k) G)).count f=0):=fun f=>by rw[En.lK];rfl
     have HGS:Hid (En.cL (En.cL En.cD (dm (Q.take k) G)) (t.L.map fun r=>(t.nm,r))=En.cL En.cD (dm (Q.take (k+1)) G)):=by
      have h9:En.cL (En.cL En.cD (dm (Q.take k) G)) (t.L.map fun r=>(t.nm,r))=En.cL En.cD (dm (Q.take (k+1)) G):=by rw[IB.out,En.B7]
      exact h9
     generalize En.cL (En.cD (F:=En.cg)) (dm (Q.take k) G)=s at Iq HNF HF RW SF HGS
     clear Nv ur Gh me cM Va c0 c1 LU DG HM F3
     go_loopw [34] (fun i wr=>∃j:Nat,j≤t.L.length∧i=.int .i64 j∧iy w2 wr sb mb (.slice rd l.length rc) fd fc T s (En.cL s ((t.L.take j).map fun r=>(t.nm,r)))) (fun i _=>t.L.length-(intOf i).toNat)
     case atStart=>exact⟨0,Nat.zero_le _,rfl,iy.refl Iq.out⟩
     case round=>
      obtain⟨j,hj,rfl,l8⟩:=hrel
      have o8:Hid (iy w2 wr sb mb (.slice rd l.length rc) fd fc T s (En.cL s ((t.L.take j).map fun r=>(t.nm,r)))):=l8
      clear l8
      by_cases rJ:j<t.L.length
      · have hrw:wr.ownsRow (wA.heap.size+1) 119 3 (.slice rd' t.L.length rc') t.L.length (aM t.L):=by
         refine o8.out.kept.row SR.out ?_
         intro b hb hm
         have h1:=HNF.out b hm
         have h2:=(SR.out.lt b hb).1
         omega
        obtain⟨g3,rfl,nL,uY,mA⟩:=aD hrw (by omega)
        obtain⟨a,b,c,UU⟩:=xq (H3L.out _ (List.getElem_mem rJ))
        obtain⟨r0,r1,r2⟩:=jZ H3L.out rJ UU
        have r0:=mA _ _ r0
        have r1:=mA _ _ r1
        have r2:=mA _ _ r2
        have xW:wr.heap[wA.heap.size]?=some (.cells #[.string t.nm,.int .i64 pp] 112 (0,0)):=by
         refine o8.out.kept.heap QX.out ?_
         intro hm
         have:=HNF.out _ hm
         omega
        have p0:wr.cell? ⟨wA.heap.size,0,none⟩=some (.string t.nm):=by rw[cell_of_row _ _ _ _ _ _ xW];rfl
        have lj:=lt_of_heap xW
        have uE:Hid (En.cL s ((t.L.take (j+1)).map fun r=>(t.nm,r))=En.hold (En.cL s ((t.L.take j).map fun r=>(t.nm,r))) (t.nm,[a,b,c]) 0):=by
         have e0:t.L.take (j+1)=t.L.take j++[t.L[j]]:=by rw[List.take_add_one,List.getElem?_eq_getElem rJ];rfl
         rw[e0,List.map_append,UU]
         exact En.GD _ _ _
        have uf:Hid (∀W:World,Below wr.heap.size wr W→Calls Tryz.prog 187 #[.pointer (some ⟨sb,0,none⟩),.agg #[.string t.nm,.string a,.string b,.string c],.int .i64 0] W fun e w'=>e=.returned (.tuple #[])∧Hid (iy w2 w' sb mb (.slice rd l.length rc) fd fc T s (En.cL s ((t.L.take (j+1)).map fun r=>(t.nm,r))))):=by
         intro W hW
         obtain⟨vN,vT,T1,kA,mg,zD⟩:=o8.out.on
         obtain⟨A,t',B,hT1,Qo⟩:=nh (T:=T1) (p:=t.nm) (by rw[ke (mg.trans HK.out)];exact HTM.out)
         subst hT1
         have pV:=En.CX ((t.L.take j).map fun r=>(t.nm,r)) s
         have Om:=En.mf ((t.L.take j).map fun r=>(t.nm,r)) s
         have aha:((t.L.take j).map fun r=>(t.nm,r)).length≤1000:=by
          have:=Ta.out
          simp;omega
         have Wo:=RW.out
         have zH:=zN W sb mb _ vN vT A B t' _ (kA.below hW) a b c 0 (by decide) (by omega) (fun f=>by rw[En.lK,SF.out f];decide)
         rw[←Qo]at zH
         refine zH.mono ?_
         rintro e w' ⟨rfl,jN⟩
         refine⟨rfl, ?_⟩
         rw[uE.out]
         exact iy.trans Iq.out (kA.below hW) mg zD (o8.out.kept.below hW) (o8.out.post hW).cells pV jN
        clear hrw mA xW UU
        go_wp2_with (go_at_call 187;refine(uf.out _ (by exact(Below.refl _ _).alloc (Nat.le_refl _) _)).mono ?_;rintro e w6 ⟨rfl,Vx⟩)
        go_roundw
        case rel=>exact⟨j+1,by omega,by go_num,Vx.out⟩
        case measure=>simp[intOf];omega
      · have Wu:j=t.L.length:=by omega
        have fS:Hid (vp w1 wr sb mb (.slice rd l.length rc) (T0.map HT.key) (En.cL En.cD (dm (Q.take (k+1)) G))):=by
         have h1:=o8.out
         rw[Wu,List.take_length,HGS.out]at h1
         exact vp.on Y6.out HK.out HF.out h1
        clear Wu
        go_wp2_with fail
        go_roundw
        case rel=>exact⟨k+1,by omega,by go_num,fS.out⟩
        case measure=>simp[intOf];omega
   · have vA:k=Q.length:=by omega
     have HMQ:Hid (vp w1 wA sb mb (.slice rd l.length rc) (T0.map HT.key) (En.cL En.cD (dm Q G))):=by
      have:=HM.out
      rw[vA,List.take_length]at this
      exact this
     clear HM vA
     have vv:Hid (∀W:World,Below w1.heap.size w1 W→fu W rd rc l):=fun W hW=>(HL.out.below mM.out).below hW
     have Sf:Hid (∀T:List HT,T.map HT.key=T0.map HT.key→∀r,r∈l→r.head.1.pred∈T.map HT.nm):=by
      intro T hT r hr
      have e:T0.map HT.nm=(T0.map ic).map Prod.fst:=by rw[List.map_map];rfl
      rw[ke hT,e,UQ.out]
      have hm:pD r.head.1∈bP (l.map MR.aw):=by
       unfold bP
       refine List.mem_map.2 ⟨r.head.1,List.mem_flatMap.2 ⟨r.aw,List.mem_map.2 ⟨r,hr,rfl⟩, ?_⟩,rfl⟩
       simp[Ax.br.atoms,MR.aw]
      have hq:=(HQ.out.2.2.2 _).2 hm
      exact List.mem_map.2 ⟨pD r.head.1,by simpa using hq,rfl⟩
     have D9:=zC zK mO.out
     have fl:Hid (Calls Tryz.prog 188 #[.pointer (some ⟨sb,0,none⟩)] wA fun e w3=>e=.returned (.tuple #[])∧Hid (vp w1 w3 sb mb (.slice rd l.length rc) (T0.map HT.key) (mstart (l.map MR.aw) (dm Q G)))):=by
      obtain⟨fd,fc,T,Nv,ur,Gh⟩:=HMQ.out.at_
      have h1:=En.mf (dm Q G) (En.cD (F:=En.cg))
      have h4:(En.cD (F:=En.cg)).found.length=0:=rfl
      have h5:=mO.out
      refine(Bm wA sb mb rd rc l fd fc T _ Nv (vv.out _ HMQ.out.aZ) (Sf.out T ur) (by omega) (by omega) (fun f=>by rw[En.lK];have:(En.cD (F:=En.cg)).count f=0:=rfl;omega)).mono ?_
      rintro e w3 ⟨rfl,jN⟩
      exact⟨rfl,vp.on HMQ.out.aZ ur Gh jN⟩
     have sQ:Hid (fk (l.map MR.aw) (dm Q G)=En.search ((l.map MR.aw).map En.cU) 200 (202-0) 0 (mstart (l.map MR.aw) (dm Q G))):=(rfl:fk (l.map MR.aw) (dm Q G)=_)
     generalize hms:fk (l.map MR.aw) (dm Q G)=PQ at sQ
     have T6:Hid (fk (l.map MR.aw) (dm Q G)=PQ):=hms
     clear hms
     clear HMQ
     go_wp2_with (go_at_call 188;refine fl.out.mono ?_;rintro e w3 ⟨rfl,HM3⟩)
     have HL0:Hid (Io w1 w3 sb mb (.slice rd l.length rc) (T0.map HT.key) ((l.map MR.aw).map En.cU) 0 (mstart (l.map MR.aw) (dm Q G)) PQ):=⟨HM3.out,sQ.out.symm,by omega,D9.1,fun f=>by have:=D9.2 f;omega⟩
     clear D9 HM3 fl sQ
     go_loopw [12] (fun i wr=>∃(n:Nat) (s:En.dB En.cg),i=.int .i64 n∧Io w1 wr sb mb (.slice rd l.length rc) (T0.map HT.key) ((l.map MR.aw).map En.cU) n s PQ) (fun i _=>202-(intOf i).toNat)
     case atStart=>exact⟨0,_,rfl,HL0.out⟩
     case round=>
      obtain⟨n,s,rfl,Qr⟩:=hrel
      have Vz:Hid (Io w1 wr sb mb (.slice rd l.length rc) (T0.map HT.key) ((l.map MR.aw).map En.cU) n s PQ):=Qr
      obtain⟨fd,fc,T,Nv,ur,Gh⟩:=Qr.rel.at_
      have afB:=Qr.le
      have hf3:=Qr.found
      have HSA:Hid (mL wr sb mb (.slice rd l.length rc) fd fc T s):=Nv
      have HKA:Hid (T.map HT.key=T0.map HT.key):=ur
      have zo:Hid (∀b,b∈dz sb fd fc s.found.length T→w1.heap.size≤b):=Gh
      have s2:wr.cell? ⟨sb,2,none⟩=some (.slice fd s.found.length fc):=by rw[cell_of_row _ _ 2 _ _ _ Nv.cT];rfl
      have s1:wr.cell? ⟨sb,1,none⟩=some (.map (some mb)):=by rw[cell_of_row _ _ 1 _ _ _ Nv.cT];rfl
      have hsb:=lt_of_heap Nv.cT
      have HBE:Hid (Below w.heap.size w wr):=mM.out.trans (Qr.rel.aZ.mono mM.out.size)
      clear Qr Nv ur Gh HL0
      by_cases oc:n<s.found.length
      · by_cases Zz:200<s.found.length
        · have ss:Hid (PQ=none):=by
           have h1:=Vz.out.res
           rw[show 202-n=(201-n)+1 by omega,En.Em oc Zz]at h1
           exact h1.symm
          go_wp2_with fail
          go_ret2
          exact⟨Q,⟨HQ.out.2.2.1,HQ.out.2.2.2⟩,⟨HBE.out,.inr ⟨rfl,by rw[T6.out,ss.out]⟩⟩⟩
        · obtain⟨m1,m2,m3,m4⟩:=Mp zK HL.out.two oc (by omega) Vz.out.count
          have HRN:Hid (En.search ((l.map MR.aw).map En.cU) 200 (202-(n+1)) (n+1) (En.meet ((l.map MR.aw).map En.cU) s n)=PQ):=by
           have h1:=Vz.out.res
           rw[show 202-n=(202-(n+1))+1 by omega,En.Lr oc (by omega)]at h1
           exact h1
          have E4:Hid (Calls Tryz.prog 189 #[.pointer (some ⟨sb,0,none⟩),.int .i64 n] wr fun e w5=>e=.returned (.tuple #[])∧Hid (Io w1 w5 sb mb (.slice rd l.length rc) (T0.map HT.key) ((l.map MR.aw).map En.cU) (n+1) (En.meet ((l.map MR.aw).map En.cU) s n) PQ)):=by
           have hpz:s.found.take (n+1)=s.found.take n++[s.found[n]]:=by rw[List.take_add_one,List.getElem?_eq_getElem oc];rfl
           refine(NO wr sb mb rd rc l fd fc T s HSA.out (vv.out _ Vz.out.rel.aZ) (Sf.out T HKA.out) (by omega) (s.found.take n) s.found[n] n (by simp;omega) oc hpz (by omega) (fun f=>by have:=Vz.out.count f;omega)).mono ?_
           rintro e w5 ⟨rfl,jN⟩
           rw[m2]at jN
           exact⟨rfl,vp.on Vz.out.rel.aZ HKA.out zo.out jN,HRN.out,by omega,m3,m4⟩
          clear m1 m2 m3 m4
          go_wp2_with (go_at_call 189;refine E4.out.mono ?_;rintro e w5 ⟨rfl,HM5⟩)
          go_roundw
          case rel=>exact⟨n+1,_,by go_num,HM5.out⟩
          case measure=>simp[intOf];omega
      · have ss:Hid (PQ=some s):=by
         have h1:=Vz.out.res
         rw[show 202-n=(201-n)+1 by omega,En.Fh oc]at h1
         exact h1.symm
        go_wp2_with fail
        go_ret2
        exact⟨Q,⟨HQ.out.2.2.1,HQ.out.2.2.2⟩,⟨HBE.out,.inl ⟨mb,T,s,rfl,by rw[T6.out,ss.out],HSA.out.toH,by rw[Qv HKA.out];exact UQ.out,fun b hb=>Nat.le_trans mM.out.size (Lu Pz zo.out b hb)⟩⟩⟩
end
/- Package record: Content. -/
section
open Go.RowKit
theorem wh{w:World}{B:Nat}{v:Value}{n:Nat}{l:List UInt8}(h:w.ownsRow B 5 1 v n (Rc.bA l))(hl:l≠[]):(convert 63 9 v).run Tryz.prog w=.ok (.string ⟨l.toArray⟩) w:=by
 have hn:l.length=n:=by have:=h.1;rw[Rc.bB]at this;omega
 have hp:0<l.length:=List.length_pos_iff.2 hl
 obtain⟨vd,vc,rfl⟩:=ah h
 obtain⟨g,rfl,hg,hc,bH⟩:=aD h (by omega)
 subst hn
 refine run_convert_bytes_back w 63 9 5 ⟨g,0,none⟩ vc l Tryz.underlying63 Tryz.underlying5 Tryz.underlying9 ?_
 intro j hj
 have dI:(⟨g,0,none⟩:Addr).add j=⟨g,j,none⟩:=by unfold Addr.add;split<;>simp_all
 rw[dI]
 refine bH j _ ?_
 rw[Rc.bA,List.getElem?_map,List.getElem?_eq_getElem hj]
 rfl
theorem Rc.Jn(l:List FI):Rc.kV l≠[]:=by
 unfold Rc.kV Rc.aQ
 split<;>simp
theorem DI(w:World)(cd:Option Addr)(cc:Nat)(cm:List FI)(gd:Option Addr)(gc:Nat)(gone:List FI)(hc:bM w cd cc cm)(hg:bM w gd gc gone)(h1:nt cm)(h2:nt gone):
 Calls Tryz.prog 69 #[.slice cd cm.length cc,.slice gd gone.length gc] w fun e w'=>e=.returned (.string ⟨(Rc.eX cm gone).toArray⟩)∧Below w.heap.size w w':=by
 have ML:=nK w.heap.size w (.slice none 0 0) 0 [] cd cc cm hc h1 (World.ownsRow_nil _ _ _ _) (Nat.le_refl _) (by omega)
 have Tf:Hid (∀w1 v1 n1,qK w.heap.size w w1 v1 n1 ([]++Rc.bA (Rc.kV cm))→Calls Tryz.prog 129 #[v1,.slice gd gone.length gc] w1 fun e w2=>∃v2,e=.returned v2∧(convert 63 9 v2).run Tryz.prog w2=.ok (.string ⟨(Rc.eX cm gone).toArray⟩) w2∧Hid (Below w.heap.size w w2)):=by
  intro w1 v1 n1 l8
  have LU:n1≤10000000000:=by
   have h3:=l8.len
   have h4:=h1.facts cm.length
   have h5:=Rc.rG cm.length (by have:=h1.DY;omega)
   rw[List.take_length]at h4
   rw[List.nil_append,Rc.bB,Rc.kV,List.length_append]at h3
   omega
  refine(nK w.heap.size w1 v1 n1 _ gd gc gone (hg.below l8.aZ) h2 l8.own l8.aZ.size LU).mono ?_
  rintro e w2 ⟨v2,n2,rfl,XA⟩
  refine⟨v2,rfl, ?_,l8.aZ.trans XA.aZ⟩
  refine wh (B:=w.heap.size) (n:=n2) ?_ ?_
  · have:=XA.own
    rw[List.nil_append,←Rc.eU]at this
    exact this
  · have:=Rc.Jn cm
    unfold Rc.eX
    simp[this]
 clear hc hg h1 h2
 generalize Rc.eX cm gone=cb at Tf
 have NZ:Hid (Calls Tryz.prog 129 #[.slice none 0 0,.slice cd cm.length cc] w fun e w1=>∃v1,e=.returned v1∧Calls Tryz.prog 129 #[v1,.slice gd gone.length gc] w1 fun e w2=>∃v2,e=.returned v2∧(convert 63 9 v2).run Tryz.prog w2=.ok (.string ⟨cb.toArray⟩) w2∧Hid (Below w.heap.size w w2)):=by
  refine ML.mono ?_
  rintro e w1 ⟨v1,n1,rfl,adL⟩
  exact⟨v1,rfl,Tf.out w1 v1 n1 adL⟩
 clear ML Tf
 go_enter Tryz.func69,Tryz.ntmps69
 go_wp2_with (go_at_call 129;first | (refine NZ.out.mono ?_;rintro e w1 ⟨v1,rfl,CY⟩;clear NZ) | (refine CY.mono ?_;rintro e w2 ⟨v2,rfl,Fq,cM⟩))
 go_ret
 exact⟨rfl,cM.out⟩
end
end Go.Proofs.YtdmicblafmhflaaGreatDoor

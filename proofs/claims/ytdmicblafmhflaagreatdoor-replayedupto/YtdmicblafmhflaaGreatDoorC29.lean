/- Package follow: Model, walked. -/
import Derived.Test.YtdmicblafmhflaaGreatDoorC28
import Derived.Test.YtdmicblafmhflaaGreatDoorC13
import Derived.Laws.IdiomStrings
set_option linter.unusedSimpArgs false
set_option linter.unusedVariables false
set_option maxHeartbeats 4000000
set_option maxRecDepth 100000
namespace Go.Proofs.YtdmicblafmhflaaGreatDoor
section
open Go.RowKit Go.Maps Go.WideMaps Go.WideElems
open Go.Sort (grow)
theorem Tryz.BK(w:World):(zeroValue 122).run Tryz.prog w=.ok (.pointer none) w:=by kernel_rfl
def mstart(rs:List Ax.br)(gl:List En.cl):En.dB En.cl:=En.holds (En.cL En.cB gl) (rs.flatMap En.eE)
def fi(rs:List Ax.br)(gl:List En.cl):Option (En.dB En.cl):=En.search (rs.map En.cT) 200 202 0 (mstart rs gl)
structure Tz(w1:World)(rv:Value)(Q:List Pd.Pr)(v:Value)(wx:World):Prop where
 out:∃sb mb T,v=.pointer (some ⟨sb,0,none⟩)∧mM wx sb mb rv none 0 T En.cB∧T.map ig=Q.reverse∧w1.heap.size≤mb∧(∀b,b∈dA sb none 0 0 T→w1.heap.size≤b)∧Below w1.heap.size w1 wx
theorem UA{w1 W w2:World}{Q:List Pd.Pr}{T:List HT}{rv:Value}(hT:kA W w2 W.heap.size Q.length Q T)(hW:W.heap.size=w1.heap.size)(hb:Below w1.heap.size w1 W)(hn:(Q.map Prod.fst).Nodup)(hs:∀p,p∈Q→p.1.size≤1000000)(hq:Q.length≤1000):
 Tz w1 rv Q (.pointer (some ⟨w2.heap.size,0,none⟩)) (w2.alloc (.cells #[rv,.map (some w1.heap.size),.slice none 0 0] 322)):=by
 rw[hW]at hT
 have mF:=hT.aZ
 obtain⟨h1,h2⟩:=uR (rv:=rv) (sb:=w2.heap.size) hT hn hs hq ((Kb.refl _ _).alloc _) (.inr (Nat.le_refl _)) (heap_alloc_new _ _)
 refine⟨_,_,T,rfl,h1,by rw[hT.ny,List.take_length],Nat.le_refl _,fun b wy=> ?_, ?_⟩
 · rcases h2 b wy with e | e
   · rw[e];have:=mF.size;omega
   · omega
 · exact(hb.trans (mF.mono (by omega))).alloc (by have:=mF.size;omega) _
theorem OC{w1 W w2:World}{Q:List Pd.Pr}{T:List HT}{rv:Value}(hT:kA W w2 W.heap.size Q.length Q T)(hW:W.heap.size=w1.heap.size+1)(hb:Below w1.heap.size w1 W)(hz:w2.heap[w1.heap.size]?=some (.cells #[.slice none 0 0,.map none,.slice none 0 0] 322 (0,0)))(hn:(Q.map Prod.fst).Nodup)(hs:∀p,p∈Q→p.1.size≤1000000)(hq:Q.length≤1000):
 Tz w1 rv Q (.pointer (some ⟨w1.heap.size,0,none⟩)) (((w2.setCell ⟨w1.heap.size,0,none⟩ rv).setCell ⟨w1.heap.size,1,none⟩ (.map (some (w1.heap.size+1)))).setCell ⟨w1.heap.size,2,none⟩ (.slice none 0 0)):=by
 rw[hW]at hT
 have mF:=hT.aZ
 have k1:Kb [w1.heap.size] w2 (((w2.setCell ⟨w1.heap.size,0,none⟩ rv).setCell ⟨w1.heap.size,1,none⟩ (.map (some (w1.heap.size+1)))).setCell ⟨w1.heap.size,2,none⟩ (.slice none 0 0)):=((Kb.setCell w2 ⟨w1.heap.size,0,none⟩ rv).trans (Kb.setCell _ ⟨w1.heap.size,1,none⟩ _)).trans (Kb.setCell _ ⟨w1.heap.size,2,none⟩ _)
 have hblk:(((w2.setCell ⟨w1.heap.size,0,none⟩ rv).setCell ⟨w1.heap.size,1,none⟩ (.map (some (w1.heap.size+1)))).setCell ⟨w1.heap.size,2,none⟩ (.slice none 0 0)).heap[w1.heap.size]?=some (.cells #[rv,.map (some (w1.heap.size+1)),.slice none 0 0] 322 (0,0)):=by
  rw[an _ (an _ (an w2 hz 0 rv) 1 _) 2]
  rfl
 obtain⟨h1,h2⟩:=uR (rv:=rv) (sb:=w1.heap.size) hT hn hs hq k1 (.inl (by omega)) hblk
 refine⟨_,_,T,rfl,h1,by rw[hT.ny,List.take_length],by omega,fun b wy=> ?_, ?_⟩
 · rcases h2 b wy with e | e
   · omega
   · omega
 · exact k1.aK (hb.trans (mF.mono (by omega))) (by have:=mF.size;omega) (by simp)
structure Vi(w1:World)(rs:List Ax.br)(Q:List Pd.Pr)(G:List GT)(e:Ending)(w':World):Prop where
 aZ:Below w1.heap.size w1 w'
 ans:(∃hm T s,e=.returned (.tuple #[.map (some hm),.bool true])∧fi rs (dm Q G)=some s∧pG w' hm T s∧T.map ig=Q.reverse∧(∀b,b∈cK hm T→w1.heap.size≤b))∨
  (e=.returned (.tuple #[.map none,.bool false])∧fi rs (dm Q G)=none)
structure Ik(w1 wr:World)(sb mb:Nat)(rv:Value)(K:List (ByteArray×Nat×Nat))(R:List (En.eo En.cl))(n:Nat)(s:En.dB En.cl)(PO:Option (En.dB En.cl)):Prop where
 rel:u7 w1 wr sb mb rv K s
 res:En.search R 200 (202-n) n s=PO
 le:n≤200
 found:s.found.length≤30000
 count:∀f,s.count f≤8+n*4000
theorem zg{l:List MR}(Aa:l.length≤8){gl:List En.cl}(hg:gl.length≤24000):(mstart (l.map MR.aw) gl).found.length≤30000∧∀f,(mstart (l.map MR.aw) gl).count f≤8:=by
 have h1:=En.qe ((l.map MR.aw).flatMap En.eE) (En.cL En.cB gl)
 have h2:((l.map MR.aw).flatMap En.eE).length≤8:=by
  rw[En.tM]
  have:=En.Hu ((l.map MR.aw).map En.cT)
  rw[List.length_map,List.length_map]at this
  omega
 have h3:=En.me gl (En.cB (F:=En.cl))
 have h4:(En.cB (F:=En.cl)).found.length=0:=rfl
 unfold mstart
 refine⟨by have:=h1.1;omega,fun f=> ?_⟩
 have h5:=h1.2 f
 rw[En.lz]at h5
 have:(En.cB (F:=En.cl)).count f=0:=rfl
 omega
theorem OS{l:List MR}(Aa:l.length≤8)(h2:∀r,r∈l→r.body.length≤2){n:Nat}{s:En.dB En.cl}(hn:n<s.found.length)(hf:s.found.length≤200)(hc:∀f,s.count f≤8+n*4000):
 ((l.map MR.aw).flatMap (En.bD (s.found.take n) s.found[n])).length≤3208∧En.holds s ((l.map MR.aw).flatMap (En.bD (s.found.take n) s.found[n]))=En.meet ((l.map MR.aw).map En.cT) s n∧
   (En.meet ((l.map MR.aw).map En.cT) s n).found.length≤30000∧∀f,(En.meet ((l.map MR.aw).map En.cT) s n).count f≤8+(n+1)*4000:=by
 have e:=Fv (P:=s.found.take n) (z:=s.found[n]) h2
 have hlen:((l.map MR.aw).flatMap (En.bD (s.found.take n) s.found[n])).length≤3208:=by
  rw[e]
  have h1:=En.AB (s.found.take n) s.found[n] ((l.map MR.aw).map En.cT)
  simp only[List.length_map,List.length_take]at h1
  have h3:min n s.found.length=n:=Nat.min_eq_left (by omega)
  rw[h3]at h1
  have h4:l.length*(2*n+1)≤8*401:=Nat.mul_le_mul Aa (by omega)
  omega
 have hm:En.holds s ((l.map MR.aw).flatMap (En.bD (s.found.take n) s.found[n]))=En.meet ((l.map MR.aw).map En.cT) s n:=by rw[En.QR hn,e]
 have hb:=En.qe ((l.map MR.aw).flatMap (En.bD (s.found.take n) s.found[n])) s
 refine⟨hlen,hm, ?_,fun f=> ?_⟩
 · rw[←hm];have:=hb.1;omega
 · rw[←hm];have h5:=hb.2 f;have h6:=hc f;omega
end
section
open Go.RowKit Go.Maps Go.WideMaps Go.WideElems
open Go.Sort (grow)
theorem I2(w:World)(pl:ByteArray)(rd:Option Addr)(rc:Nat)(l:List MR)(hl:fF w rd rc l)(Aa:l.length≤8)(h1:Pd.One (bP (l.map MR.aw)))(cA:l≠[])(cE:∀p,p∈bP (l.map MR.aw)→p.1.size≤1000000)
 (gm:Nat)(G:List GT)(hG:lB w gm G)(RM:∀p,p∈bP (l.map MR.aw)→p.1∈G.map GT.nm)(hGt:∀t,t∈G→t.L.length≤1000):
 Calls Tryz.prog 111 #[.agg #[.string pl,.slice rd l.length rc],.map (some gm)] w fun e w'=>∃Q,Hid (Pd.vF Q∧∀p,p∈Q↔p∈bP (l.map MR.aw))∧Vi w (l.map MR.aw) Q G e w':=by
 obtain⟨w0,cZ⟩:∃w0,w0=w.alloc (.cells #[.string pl,.slice rd l.length rc] 101):=⟨_,rfl⟩
 have bL:Below w.heap.size w w0:=by rw[cZ];exact(Below.refl _ _).alloc (Nat.le_refl _) _
 have nA:w0.heap[w.heap.size]?=some (.cells #[.string pl,.slice rd l.length rc] 101 (0,0)):=by rw[cZ];exact heap_alloc_new w _
 have x0:w0.cell? ⟨w.heap.size,0,none⟩=some (.string pl):=by rw[cell_of_row _ _ 0 _ _ _ nA];rfl
 have x1:w0.cell? ⟨w.heap.size,1,none⟩=some (.slice rd l.length rc):=by rw[cell_of_row _ _ 1 _ _ _ nA];rfl
 have nK:Hid (Calls Tryz.prog 59 #[.agg #[.string pl,.slice rd l.length rc]] w0 fun e w1=>∃qd qc Q,e=.returned (.slice qd (List.length Q) qc)∧w1.cell? ⟨w.heap.size,1,none⟩=some (.slice rd l.length rc)∧w.heap.size<w1.heap.size∧Hid (w1.ownsRow 0 112 2 (.slice qd Q.length qc) Q.length (aB Q)∧Below w.heap.size w w1∧Pd.vF Q∧∀p,p∈Q↔p∈bP (l.map MR.aw))):=by
  refine(mf w0 pl rd rc l (hl.CC.below bL) (by omega) h1 cA).mono ?_
  rintro e w1 ⟨qd,qc,Q,rfl,q1,q2,q3⟩
  have aE:=lt_of_heap nA
  exact⟨qd,qc,Q,rfl,by rw[q2.cell aE];exact x1,Nat.lt_of_lt_of_le aE q2.size,aG q1 (Nat.zero_le _),bL.trans (q2.mono bL.size),q3.out.1,q3.out.2⟩
 have RW:Hid (∀p,p∈bP (l.map MR.aw)→p.1.size≤1000000):=cE
 have HGN:Hid (∀p,p∈bP (l.map MR.aw)→p.1∈G.map GT.nm):=RM
 have HGT:Hid (∀t,t∈G→t.L.length≤1000):=hGt
 have HL:Hid (fF w rd rc l):=hl
 have HG:Hid (lB w gm G):=hG
 have hle:=bh hl.CC.1
 have H3:Hid ((bP (l.map MR.aw)).length≤24):=by have:=FH hl.two;exact(by omega:(bP (l.map MR.aw)).length≤24)
 clear h1 cA cE RM hGt hl hG nA
 go_enter Tryz.func111,Tryz.ntmps111
 go_upto_region 1 with fail
 rw[←cZ]
 clear cZ
 go_upto_region 2 with(go_at_call 59;refine nK.out.mono ?_;rintro e w1 ⟨qd,qc,Q,rfl,y1,Nw,HQ⟩)
 have hQl:Q.length≤24:=Nat.le_trans (zH _ _ (tu HQ.out.2.2.1) (fun p hp=>(HQ.out.2.2.2 p).1 hp)) H3.out
 have hnh:Hid (∀W:World,Below w1.heap.size w1 W→Calls Tryz.prog 186 #[.slice qd Q.length qc] W fun e w2=>∃T,e=.returned (.map (some W.heap.size))∧Hid (kA W w2 W.heap.size Q.length Q T)∧w2.cell? ⟨w.heap.size,1,none⟩=some (.slice rd l.length rc)∧w.heap.size<w2.heap.size∧Below W.heap.size W w2):=by
  intro W hW
  refine(yU W 0 qd qc Q (ae HQ.out.1 hW) (by omega) (fun p hp=>RW.out p ((HQ.out.2.2.2 p).1 hp))).mono ?_
  rintro e w2 ⟨T,rfl,hT⟩
  have vA:=hT.aZ
  refine⟨T,rfl,hT, ?_,Nat.lt_of_lt_of_le Nw (Nat.le_trans hW.size vA.size),vA⟩
  rw[vA.cell (Nat.lt_of_lt_of_le Nw hW.size),hW.cell Nw]
  exact y1
 go_cut [7]from 15 (fun v wx=>Hid (Tz w1 (.slice rd l.length rc) Q v wx))
 case first=>
  go_region_with (go_at_call 186;refine(hnh.out _ (by first | exact(Below.refl _ _).drew | exact((Below.refl _ _).drew).alloc (Nat.le_refl _) _)).mono ?_;rintro e w2 ⟨T,rfl,HT,y2,oH,cM⟩;try (have ZC:=DL (w1:=w1) (by exact rfl) cM;obtain⟨hz,z0,z1,z2,f0,f1,f2,hzl⟩:=ZC))
  all_goals
   (go_wp2_with fail
    go_meet
    first
    | exact UA HT.out rfl ((Below.refl _ _).drew) (pz HQ.out.2.2.1) (fun p hp=>RW.out p ((HQ.out.2.2.2 p).1 hp)) (by omega)
    | exact OC HT.out (by simp) (((Below.refl _ _).alloc (Nat.le_refl _) _).drew) hz (pz HQ.out.2.2.1) (fun p hp=>RW.out p ((HQ.out.2.2.2 p).1 hp)) (by omega)
    | exact OC HT.out (by simp) (((Below.refl _ _).drew).alloc (Nat.le_refl _) _) hz (pz HQ.out.2.2.1) (fun p hp=>RW.out p ((HQ.out.2.2.2 p).1 hp)) (by omega))
 case rest=>
  obtain⟨sb,mb,T0,rfl,E4,Xw,Pz,Xj,a8⟩:=hcut.out.out
  have mK:Hid (Below w.heap.size w w1):=HQ.out.2.1
  have VJ:Hid (T0.map ig=Q.reverse):=Xw
  have HM0:Hid (u7 w1 wc sb mb (.slice rd l.length rc) (T0.map HT.key) En.cB):=⟨⟨none,0,T0,E4,rfl,Xj⟩,a8⟩
  have HQR:Hid (w1.ownsRow 0 112 2 (.slice qd Q.length qc) Q.length (aB Q)):=HQ.out.1
  have mO:Hid ((dm Q G).length≤24000):=by have:=Nb (Q:=Q) HGT.out;exact(by omega:(dm Q G).length≤24000)
  have OU:=bh HQ.out.1
  clear hcut E4 Xw Xj a8 hnh x0 x1 y1
  go_wp2_with fail
  go_loopw [22] (fun i wr=>∃k:Nat,k≤Q.length∧i=.int .i64 k∧u7 w1 wr sb mb (.slice rd l.length rc) (T0.map HT.key) (En.cL En.cB (dm (Q.take k) G))) (fun i _=>Q.length-(intOf i).toNat)
  case atStart=>exact⟨0,Nat.zero_le _,rfl,HM0.out⟩
  case round=>
   obtain⟨k,hk,rfl,hm⟩:=hrel
   have HM:Hid (u7 w1 wr sb mb (.slice rd l.length rc) (T0.map HT.key) (En.cL En.cB (dm (Q.take k) G))):=hm
   clear hm HM0
   obtain⟨wA,rfl⟩:∃x,x=wr:=⟨_,rfl⟩
   by_cases aE:k<Q.length
   · have G6:Hid (wA.ownsRow 0 112 2 (.slice qd Q.length qc) Q.length (aB Q)):=ae HQR.out HM.out.aZ
     obtain⟨g,rfl,hg,hc,bH⟩:=aD G6.out (by omega)
     have c0:=bH _ _ (aT Q k aE).1
     have c1:=bH _ _ (aT Q k aE).2
     have Cv:Hid (Below w.heap.size w wA):=mK.out.trans (HM.out.aZ.mono mK.out.size)
     obtain⟨t,Ux,wV⟩:∃t,t∈G∧t.nm=(Q[k]).1:=by
      obtain⟨t,ht,e⟩:=List.mem_map.1 (HGN.out Q[k] ((HQ.out.2.2.2 _).1 (List.getElem_mem aE)))
      exact⟨t,ht,e⟩
     have Ip:Hid (dm (Q.take (k+1)) G=dm (Q.take k) G++t.L.map fun r=>(t.nm,r)):=by
      have e:=KU aE G
      rw[←wV,qF HG.out.names Ux]at e
      exact e
     have HTM:Hid (t.nm∈T0.map HT.nm):=by
      have e:T0.map HT.nm=(T0.map ig).map Prod.fst:=by rw[List.map_map];rfl
      rw[e,VJ.out,wV]
      exact List.mem_map.2 ⟨Q[k],by simp,rfl⟩
     have Sz:Hid (t.L.length≤1000):=HGT.out t Ux
     have RP:Hid ((En.cL (En.cB (F:=En.cl)) (dm (Q.take k) G)).found.length≤24000):=by
      have h1:=En.me (dm (Q.take k) G) (En.cB (F:=En.cl))
      have h2:=zb Q k G
      have h3:=mO.out
      have h4:(En.cB (F:=En.cl)).found.length=0:=rfl
      have h5:(En.cL (En.cB (F:=En.cl)) (dm (Q.take k) G)).found.length≤24000:=by omega
      exact h5
     have H3L:Hid (p7 t.L):=(cp.rows (HG.out.b7 t Ux)).three
     rw[←wV]at c0
     have nU:∀W:World,Below wA.heap.size wA W→(Instr.lookup 102 (.map (some gm)) (.string t.nm) false).run Tryz.prog W=.ok (.pointer (some ⟨t.g,0,none⟩)) W:=fun W hW=>((HG.out.below Cv.out).below hW).map.look (iW HG.out.names Ux) (HG.out.short t Ux) Tryz.underlying102 (Tryz.BK W)
     have LK:=nU (wA.alloc (.cells #[.string t.nm,.int .i64 (Q[k]).2] 112)) ((Below.refl _ _).alloc (Nat.le_refl _) _)
     have EO:Hid (∀W,Below wA.heap.size wA W→Calls Tryz.prog 133 #[.pointer (some ⟨t.g,0,none⟩)] W fun e w2=>∃rd' rc',e=.returned (.slice rd' t.L.length rc')∧w2.ownsRow W.heap.size 119 3 (.slice rd' t.L.length rc') t.L.length (aM t.L)∧Below W.heap.size W w2):=fun W hW=>xC W t.g _ t.nm t.pl t.rd t.rc t.L [] (((HG.out.below Cv.out).below hW).b7 t Ux) (by have:=Sz.out;omega)
     generalize (Q[k]).2=pp at c1 LK
     clear bH nU wV Ux
     go_wp2_with (go_at_call 133;refine(EO.out _ (by exact(Below.refl _ _).alloc (Nat.le_refl _) _)).mono ?_;rintro e w2 ⟨rd',rc',rfl,mu,cM⟩)
     have TA:Below wA.heap.size wA w2:=((Below.refl _ _).alloc (Nat.le_refl _) _).trans (cM.mono (by simp))
     have Qg:Hid (w2.heap[wA.heap.size]?=some (.cells #[.string t.nm,.int .i64 pp] 112 (0,0))):=by
      rw[cM.block _ (by simp)]
      exact heap_alloc_new _ _
     obtain⟨fd,fc,T,NK,ui,FY⟩:=HM.out.at_
     have Iv:Hid (mM w2 sb mb (.slice rd l.length rc) fd fc T (En.cL En.cB (dm (Q.take k) G))):=NK.below TA
     have HNF:Hid (∀b,b∈dA sb fd fc (En.cL (En.cB (F:=En.cl)) (dm (Q.take k) G)).found.length T→b<wA.heap.size):=fun b hb=>by
      obtain⟨cur,U,e,_⟩:=lD NK hb
      exact lt_of_heap e
     have HK:Hid (T.map HT.key=T0.map HT.key):=ui
     have HF:Hid (∀b,b∈dA sb fd fc (En.cL (En.cB (F:=En.cl)) (dm (Q.take k) G)).found.length T→w1.heap.size≤b):=FY
     have Zr:Hid (Below w1.heap.size w1 w2):=HM.out.aZ.trans (TA.mono HM.out.aZ.size)
     have Se:Hid (w2.ownsRow (wA.heap.size+1) 119 3 (.slice rd' t.L.length rc') t.L.length (aM t.L)):=by
      have:=mu
      rw[World.size_alloc]at this
      exact this
     have ahb:=bh mu
     have Sg:Hid (∀f,(En.cL (En.cB (F:=En.cl)) (dm (Q.take k) G)).count f=0):=fun f=>by rw[En.lz];rfl
     have HGS:Hid (En.cL (En.cL En.cB (dm (Q.take k) G)) (t.L.map fun r=>(t.nm,r))=En.cL En.cB (dm (Q.take (k+1)) G)):=by
      have h9:En.cL (En.cL En.cB (dm (Q.take k) G)) (t.L.map fun r=>(t.nm,r))=En.cL En.cB (dm (Q.take (k+1)) G):=by rw[Ip.out,En.Bl]
      exact h9
     generalize En.cL (En.cB (F:=En.cl)) (dm (Q.take k) G)=s at Iv HNF HF RP Sg HGS
     clear NK ui FY mu cM TA c0 c1 LK EO HM G6
     go_loopw [34] (fun i wr=>∃j:Nat,j≤t.L.length∧i=.int .i64 j∧iy w2 wr sb mb (.slice rd l.length rc) fd fc T s (En.cL s ((t.L.take j).map fun r=>(t.nm,r)))) (fun i _=>t.L.length-(intOf i).toNat)
     case atStart=>exact⟨0,Nat.zero_le _,rfl,iy.refl Iv.out⟩
     case round=>
      obtain⟨j,hj,rfl,mw⟩:=hrel
      have pg:Hid (iy w2 wr sb mb (.slice rd l.length rc) fd fc T s (En.cL s ((t.L.take j).map fun r=>(t.nm,r)))):=mw
      clear mw
      by_cases qS:j<t.L.length
      · have hrw:wr.ownsRow (wA.heap.size+1) 119 3 (.slice rd' t.L.length rc') t.L.length (aM t.L):=by
         refine pg.out.kept.row Se.out ?_
         intro b hb hm
         have h1:=HNF.out b hm
         have h2:=(Se.out.lt b hb).1
         omega
        obtain⟨g3,rfl,nP,vm,mc⟩:=aD hrw (by omega)
        obtain⟨a,b,c,TX⟩:=wW (H3L.out _ (List.getElem_mem qS))
        obtain⟨r0,r1,r2⟩:=jU H3L.out qS TX
        have r0:=mc _ _ r0
        have r1:=mc _ _ r1
        have r2:=mc _ _ r2
        have ye:wr.heap[wA.heap.size]?=some (.cells #[.string t.nm,.int .i64 pp] 112 (0,0)):=by
         refine pg.out.kept.heap Qg.out ?_
         intro hm
         have:=HNF.out _ hm
         omega
        have p0:wr.cell? ⟨wA.heap.size,0,none⟩=some (.string t.nm):=by rw[cell_of_row _ _ _ _ _ _ ye];rfl
        have kY:=lt_of_heap ye
        have uG:Hid (En.cL s ((t.L.take (j+1)).map fun r=>(t.nm,r))=En.hold (En.cL s ((t.L.take j).map fun r=>(t.nm,r))) (t.nm,[a,b,c]) 0):=by
         have e0:t.L.take (j+1)=t.L.take j++[t.L[j]]:=by rw[List.take_add_one,List.getElem?_eq_getElem qS];rfl
         rw[e0,List.map_append,TX]
         exact En.Fz _ _ _
        have uJ:Hid (∀W:World,Below wr.heap.size wr W→Calls Tryz.prog 187 #[.pointer (some ⟨sb,0,none⟩),.agg #[.string t.nm,.string a,.string b,.string c],.int .i64 0] W fun e w'=>e=.returned (.tuple #[])∧Hid (iy w2 w' sb mb (.slice rd l.length rc) fd fc T s (En.cL s ((t.L.take (j+1)).map fun r=>(t.nm,r))))):=by
         intro W hW
         obtain⟨vP,vK,T1,kV,ml,zt⟩:=pg.out.on
         obtain⟨A,t',B,hT1,PZ⟩:=mP (T:=T1) (p:=t.nm) (by rw[j6 (ml.trans HK.out)];exact HTM.out)
         subst hT1
         have pS:=En.DC ((t.L.take j).map fun r=>(t.nm,r)) s
         have NB:=En.me ((t.L.take j).map fun r=>(t.nm,r)) s
         have ahK:((t.L.take j).map fun r=>(t.nm,r)).length≤1000:=by
          have:=Sz.out
          simp;omega
         have VX:=RP.out
         have AJ:=AR W sb mb _ vP vK A B t' _ (kV.below hW) a b c 0 (by decide) (by omega) (fun f=>by rw[En.lz,Sg.out f];decide)
         rw[←PZ]at AJ
         refine AJ.mono ?_
         rintro e w' ⟨rfl,jE⟩
         refine⟨rfl, ?_⟩
         rw[uG.out]
         exact iy.trans Iv.out (kV.below hW) ml zt (pg.out.kept.below hW) (pg.out.post hW).cells pS jE
        clear hrw mc ye TX
        go_wp2_with (go_at_call 187;refine(uJ.out _ (by exact(Below.refl _ _).alloc (Nat.le_refl _) _)).mono ?_;rintro e w6 ⟨rfl,UY⟩)
        go_roundw
        case rel=>exact⟨j+1,by omega,by go_num,UY.out⟩
        case measure=>simp[intOf];omega
      · have V4:j=t.L.length:=by omega
        have fR:Hid (u7 w1 wr sb mb (.slice rd l.length rc) (T0.map HT.key) (En.cL En.cB (dm (Q.take (k+1)) G))):=by
         have h1:=pg.out
         rw[V4,List.take_length,HGS.out]at h1
         exact u7.on Zr.out HK.out HF.out h1
        clear V4
        go_wp2_with fail
        go_roundw
        case rel=>exact⟨k+1,by omega,by go_num,fR.out⟩
        case measure=>simp[intOf];omega
   · have va:k=Q.length:=by omega
     have ZM:Hid (u7 w1 wA sb mb (.slice rd l.length rc) (T0.map HT.key) (En.cL En.cB (dm Q G))):=by
      have:=HM.out
      rw[va,List.take_length]at this
      exact this
     clear HM va
     have vv:Hid (∀W:World,Below w1.heap.size w1 W→fF W rd rc l):=fun W hW=>(HL.out.below mK.out).below hW
     have Te:Hid (∀T:List HT,T.map HT.key=T0.map HT.key→∀r,r∈l→r.head.1.pred∈T.map HT.nm):=by
      intro T hT r hr
      have e:T0.map HT.nm=(T0.map ig).map Prod.fst:=by rw[List.map_map];rfl
      rw[j6 hT,e,VJ.out]
      have hm:pC r.head.1∈bP (l.map MR.aw):=by
       unfold bP
       refine List.mem_map.2 ⟨r.head.1,List.mem_flatMap.2 ⟨r.aw,List.mem_map.2 ⟨r,hr,rfl⟩, ?_⟩,rfl⟩
       simp[Ax.br.atoms,MR.aw]
      have hq:=(HQ.out.2.2.2 _).2 hm
      exact List.mem_map.2 ⟨pC r.head.1,by simpa using hq,rfl⟩
     have EK:=zg Aa mO.out
     have fm:Hid (Calls Tryz.prog 188 #[.pointer (some ⟨sb,0,none⟩)] wA fun e w3=>e=.returned (.tuple #[])∧Hid (u7 w1 w3 sb mb (.slice rd l.length rc) (T0.map HT.key) (mstart (l.map MR.aw) (dm Q G)))):=by
      obtain⟨fd,fc,T,NK,ui,FY⟩:=ZM.out.at_
      have h1:=En.me (dm Q G) (En.cB (F:=En.cl))
      have h4:(En.cB (F:=En.cl)).found.length=0:=rfl
      have h5:=mO.out
      refine(Bz wA sb mb rd rc l fd fc T _ NK (vv.out _ ZM.out.aZ) (Te.out T ui) (by omega) (by omega) (fun f=>by rw[En.lz];have:(En.cB (F:=En.cl)).count f=0:=rfl;omega)).mono ?_
      rintro e w3 ⟨rfl,jE⟩
      exact⟨rfl,u7.on ZM.out.aZ ui FY jE⟩
     have tJ:Hid (fi (l.map MR.aw) (dm Q G)=En.search ((l.map MR.aw).map En.cT) 200 (202-0) 0 (mstart (l.map MR.aw) (dm Q G))):=(rfl:fi (l.map MR.aw) (dm Q G)=_)
     generalize hms:fi (l.map MR.aw) (dm Q G)=PO at tJ
     have VK:Hid (fi (l.map MR.aw) (dm Q G)=PO):=hms
     clear hms
     clear ZM
     go_wp2_with (go_at_call 188;refine fm.out.mono ?_;rintro e w3 ⟨rfl,HM3⟩)
     have HL0:Hid (Ik w1 w3 sb mb (.slice rd l.length rc) (T0.map HT.key) ((l.map MR.aw).map En.cT) 0 (mstart (l.map MR.aw) (dm Q G)) PO):=⟨HM3.out,tJ.out.symm,by omega,EK.1,fun f=>by have:=EK.2 f;omega⟩
     clear EK HM3 fm tJ
     go_loopw [12] (fun i wr=>∃(n:Nat) (s:En.dB En.cl),i=.int .i64 n∧Ik w1 wr sb mb (.slice rd l.length rc) (T0.map HT.key) ((l.map MR.aw).map En.cT) n s PO) (fun i _=>202-(intOf i).toNat)
     case atStart=>exact⟨0,_,rfl,HL0.out⟩
     case round=>
      obtain⟨n,s,rfl,Rg⟩:=hrel
      have VH:Hid (Ik w1 wr sb mb (.slice rd l.length rc) (T0.map HT.key) ((l.map MR.aw).map En.cT) n s PO):=Rg
      obtain⟨fd,fc,T,NK,ui,FY⟩:=Rg.rel.at_
      have agd:=Rg.le
      have hf3:=Rg.found
      have HSA:Hid (mM wr sb mb (.slice rd l.length rc) fd fc T s):=NK
      have HKA:Hid (T.map HT.key=T0.map HT.key):=ui
      have yT:Hid (∀b,b∈dA sb fd fc s.found.length T→w1.heap.size≤b):=FY
      have s2:wr.cell? ⟨sb,2,none⟩=some (.slice fd s.found.length fc):=by rw[cell_of_row _ _ 2 _ _ _ NK.cU];rfl
      have s1:wr.cell? ⟨sb,1,none⟩=some (.map (some mb)):=by rw[cell_of_row _ _ 1 _ _ _ NK.cU];rfl
      have hsb:=lt_of_heap NK.cU
      have HBE:Hid (Below w.heap.size w wr):=mK.out.trans (Rg.rel.aZ.mono mK.out.size)
      clear Rg NK ui FY HL0
      by_cases oH:n<s.found.length
      · by_cases WZ:200<s.found.length
        · have rh:Hid (PO=none):=by
           have h1:=VH.out.res
           rw[show 202-n=(201-n)+1 by omega,En.C4 oH WZ]at h1
           exact h1.symm
          go_wp2_with fail
          go_ret2
          exact⟨Q,⟨HQ.out.2.2.1,HQ.out.2.2.2⟩,⟨HBE.out,.inr ⟨rfl,by rw[VK.out,rh.out]⟩⟩⟩
        · obtain⟨m1,m2,m3,m4⟩:=OS Aa HL.out.two oH (by omega) VH.out.count
          have HRN:Hid (En.search ((l.map MR.aw).map En.cT) 200 (202-(n+1)) (n+1) (En.meet ((l.map MR.aw).map En.cT) s n)=PO):=by
           have h1:=VH.out.res
           rw[show 202-n=(202-(n+1))+1 by omega,En.Kx oH (by omega)]at h1
           exact h1
          have EY:Hid (Calls Tryz.prog 189 #[.pointer (some ⟨sb,0,none⟩),.int .i64 n] wr fun e w5=>e=.returned (.tuple #[])∧Hid (Ik w1 w5 sb mb (.slice rd l.length rc) (T0.map HT.key) ((l.map MR.aw).map En.cT) (n+1) (En.meet ((l.map MR.aw).map En.cT) s n) PO)):=by
           have hpz:s.found.take (n+1)=s.found.take n++[s.found[n]]:=by rw[List.take_add_one,List.getElem?_eq_getElem oH];rfl
           refine(NQ wr sb mb rd rc l fd fc T s HSA.out (vv.out _ VH.out.rel.aZ) (Te.out T HKA.out) (by omega) (s.found.take n) s.found[n] n (by simp;omega) oH hpz (by omega) (fun f=>by have:=VH.out.count f;omega)).mono ?_
           rintro e w5 ⟨rfl,jE⟩
           rw[m2]at jE
           exact⟨rfl,u7.on VH.out.rel.aZ HKA.out yT.out jE,HRN.out,by omega,m3,m4⟩
          clear m1 m2 m3 m4
          go_wp2_with (go_at_call 189;refine EY.out.mono ?_;rintro e w5 ⟨rfl,HM5⟩)
          go_roundw
          case rel=>exact⟨n+1,_,by go_num,HM5.out⟩
          case measure=>simp[intOf];omega
      · have rh:Hid (PO=some s):=by
         have h1:=VH.out.res
         rw[show 202-n=(201-n)+1 by omega,En.G3 oH]at h1
         exact h1.symm
        go_wp2_with fail
        go_ret2
        exact⟨Q,⟨HQ.out.2.2.1,HQ.out.2.2.2⟩,⟨HBE.out,.inl ⟨mb,T,s,rfl,by rw[VK.out,rh.out],HSA.out.toH,by rw[Q2 HKA.out];exact VJ.out,fun b hb=>Nat.le_trans mK.out.size (Ky Pz yT.out b hb)⟩⟩⟩
end
/- Package record: Content. -/
section
open Go.RowKit
theorem wM{w:World}{B:Nat}{v:Value}{n:Nat}{l:List UInt8}(h:w.ownsRow B 5 1 v n (Rc.bA l))(hl:l≠[]):(convert 63 9 v).run Tryz.prog w=.ok (.string ⟨l.toArray⟩) w:=by
 have hn:l.length=n:=by have:=h.1;rw[Rc.bB]at this;omega
 have hp:0<l.length:=List.length_pos_iff.2 hl
 obtain⟨vd,vc,rfl⟩:=ah h
 obtain⟨g,rfl,hg,hc,bH⟩:=aD h (by omega)
 subst hn
 refine run_convert_bytes_back w 63 9 5 ⟨g,0,none⟩ vc l Tryz.underlying63 Tryz.underlying5 Tryz.underlying9 ?_
 intro j hj
 have dI:(⟨g,0,none⟩:Addr).add j=⟨g,j,none⟩:=by unfold Addr.add;split<;>simp_all
 rw[dI]
 refine bH j _ ?_
 rw[Rc.bA,List.getElem?_map,List.getElem?_eq_getElem hj]
 rfl
theorem Rc.JW(l:List FI):Rc.kp l≠[]:=by
 unfold Rc.kp Rc.aQ
 split<;>simp
theorem D8(w:World)(cd:Option Addr)(cc:Nat)(cm:List FI)(gd:Option Addr)(gc:Nat)(gone:List FI)(hc:bM w cd cc cm)(hg:bM w gd gc gone)(h1:nF cm)(h2:nF gone):
 Calls Tryz.prog 69 #[.slice cd cm.length cc,.slice gd gone.length gc] w fun e w'=>e=.returned (.string ⟨(Rc.eY cm gone).toArray⟩)∧Below w.heap.size w w':=by
 have Ot:=nL w.heap.size w (.slice none 0 0) 0 [] cd cc cm hc h1 (World.ownsRow_nil _ _ _ _) (Nat.le_refl _) (by omega)
 have Ta:Hid (∀w1 v1 n1,qJ w.heap.size w w1 v1 n1 ([]++Rc.bA (Rc.kp cm))→Calls Tryz.prog 129 #[v1,.slice gd gone.length gc] w1 fun e w2=>∃v2,e=.returned v2∧(convert 63 9 v2).run Tryz.prog w2=.ok (.string ⟨(Rc.eY cm gone).toArray⟩) w2∧Hid (Below w.heap.size w w2)):=by
  intro w1 v1 n1 mw
  have LK:n1≤10000000000:=by
   have h3:=mw.len
   have h4:=h1.facts cm.length
   have h5:=Rc.sf cm.length (by have:=h1.CZ;omega)
   rw[List.take_length]at h4
   rw[List.nil_append,Rc.bB,Rc.kp,List.length_append]at h3
   omega
  refine(nL w.heap.size w1 v1 n1 _ gd gc gone (hg.below mw.aZ) h2 mw.own mw.aZ.size LK).mono ?_
  rintro e w2 ⟨v2,n2,rfl,Zn⟩
  refine⟨v2,rfl, ?_,mw.aZ.trans Zn.aZ⟩
  refine wM (B:=w.heap.size) (n:=n2) ?_ ?_
  · have:=Zn.own
    rw[List.nil_append,←Rc.eK]at this
    exact this
  · have:=Rc.JW cm
    unfold Rc.eY
    simp[this]
 clear hc hg h1 h2
 generalize Rc.eY cm gone=cb at Ta
 have LU:Hid (Calls Tryz.prog 129 #[.slice none 0 0,.slice cd cm.length cc] w fun e w1=>∃v1,e=.returned v1∧Calls Tryz.prog 129 #[v1,.slice gd gone.length gc] w1 fun e w2=>∃v2,e=.returned v2∧(convert 63 9 v2).run Tryz.prog w2=.ok (.string ⟨cb.toArray⟩) w2∧Hid (Below w.heap.size w w2)):=by
  refine Ot.mono ?_
  rintro e w1 ⟨v1,n1,rfl,adx⟩
  exact⟨v1,rfl,Ta.out w1 v1 n1 adx⟩
 clear Ot Ta
 go_enter Tryz.func69,Tryz.ntmps69
 go_wp2_with (go_at_call 129;first | (refine LU.out.mono ?_;rintro e w1 ⟨v1,rfl,CJ⟩;clear LU) | (refine CJ.mono ?_;rintro e w2 ⟨v2,rfl,E9,cM⟩))
 go_ret
 exact⟨rfl,cM.out⟩
end
end Go.Proofs.YtdmicblafmhflaaGreatDoor

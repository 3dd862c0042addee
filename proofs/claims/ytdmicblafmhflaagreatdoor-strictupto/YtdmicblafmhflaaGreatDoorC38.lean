/- axiomkeep.Shop.apply, walked. -/
import Derived.Test.YtdmicblafmhflaaGreatDoorC37
set_option linter.unusedSimpArgs false
set_option linter.unusedVariables false
set_option maxHeartbeats 4000000
set_option maxRecDepth 100000
namespace Go.Proofs.YtdmicblafmhflaaGreatDoor
section
open Go.RowKit Go.Maps
namespace Rc
def fD(i:Nat):List UInt8:=aL (cP i).1++(cP i).2.flatMap aL
def WU(ci gi:List Nat):List UInt8:=(aV ci.length++ci.flatMap fD)++(aV gi.length++gi.flatMap fD)
end Rc
theorem qI:∀{l:List FI} {is:List Nat},l.map (fun f=>(f.pred,f.args))=is.map cP→l.flatMap Rc.fH=is.flatMap Rc.fD
 | [],[],_=>rfl
 | [],_::_,h=>by simp at h
 | _::_,[],h=>by simp at h
 | f::l,i::is,h=>by
  simp only[List.map_cons,List.cons.injEq]at h
  have e1:f.pred=(cP i).1:=congrArg Prod.fst h.1
  have e2:f.args=(cP i).2:=congrArg Prod.snd h.1
  rw[List.flatMap_cons,List.flatMap_cons,qI h.2]
  unfold Rc.fH Rc.fD
  rw[e1,e2]
theorem B9{dO gone:List FI}{ci gi:List Nat}(h1:mM dO ci)(h2:mM gone gi):Rc.fK dO gone=Rc.WU ci gi:=by
 unfold Rc.fK Rc.kO Rc.WU
 rw[qI h1.1,qI h2.1,h1.len,h2.len]
def vy(K:Nat→Int)(w w':World)(sb eg:Nat)(ct:ByteArray):Prop:=∀hd lg lv,yP w eg hd lg lv→∃Jm,yP w' eg (oY K hd ct) (lg++Rc.bB (Rc.aL ct++oY K hd ct)) Jm∧Kb (sb::eg::lv.ownBlock.toList) w w'∧cn w lv Jm
theorem vy.below{K:Nat→Int}{w wr w':World}{sb eg:Nat}{ct:ByteArray}(h:vy K w wr sb eg ct)(hb:Below wr.heap.size wr w'):vy K w w' sb eg ct:=by
 intro hd lg lv hH
 obtain⟨Jm,h1,h2,h3⟩:=h hd lg lv hH
 exact⟨Jm,h1.below hb,h2.below hb,h3⟩
theorem vy.of_next{K:Nat→Int}{w W w':World}{sb eg:Nat}{ct:ByteArray}(hb:Below w.heap.size w W)(h:CW K W w' eg ct):vy K w w' sb eg ct:=by
 intro hd lg lv hH
 obtain⟨Jm,h1,h2,h3⟩:=h hd lg lv (hH.below hb)
 exact⟨Jm,h1,(Kb.bG hb _).trans (h2.mono (fun i hi _=>List.mem_cons_of_mem _ hi)),h3.mono hb.size⟩
theorem yP.off{w w':World}{eg:Nat}{hd:List UInt8}{lg:List Value}{lv:Value}(h:yP w eg hd lg lv){x:Nat}(hk:Kb [x] w w'){Z:Array Value}{t:TypeId}{f:Nat×Nat}(hx:w.heap[x]?=some (.cells Z t f))(h1:109≠t)(h2:5≠t):yP w' eg hd lg lv:=by
 obtain⟨pl,rv,gm,hm,e⟩:=h.at_
 refine⟨⟨pl,rv,gm,hm,hk.heap e (by simpa using lN e hx h1)⟩,h.NY,hk.ie h.log (fun b cur fz hb e2=> ?_)⟩
 simp only[List.mem_cons,List.not_mem_nil,or_false]at hb
 subst hb
 rw[hx]at e2
 simp at e2
 exact h2 e2.2.1.symm
theorem vy.set{K:Nat→Int}{w wr:World}{sb eg:Nat}{ct:ByteArray}(h:vy K w wr sb eg ct){Z:Array Value}{f:Nat×Nat}(hx:wr.heap[sb]?=some (.cells Z 43 f))(o:Nat)(v:Value):vy K w (wr.setCell ⟨sb,o,none⟩ v) sb eg ct:=by
 intro hd lg lv hH
 obtain⟨Jm,h1,h2,h3⟩:=h hd lg lv hH
 have hk:Kb [sb] wr (wr.setCell ⟨sb,o,none⟩ v):=Kb.setCell wr ⟨sb,o,none⟩ v
 exact⟨Jm,h1.off hk hx (by decide) (by decide),h2.trans (hk.mono (fun i hi _=>by simp at hi;simp[hi])),h3⟩
def IK(w W:World):Prop:=∀(b:Nat) (cur:Array Value) (fz:Nat×Nat),w.heap[b]?=some (.cells cur 3 fz)→W.heap[b]?=some (.cells cur 3 fz)
theorem IK.refl(w:World):IK w w:=fun _ _ _ h=>h
theorem IK.trans{a b c:World}(h:IK a b)(k:IK b c):IK a c:=fun x cur fz e=>k x cur fz (h x cur fz e)
theorem IK.bG{w W:World}(h:Below w.heap.size w W):IK w W:=fun b cur fz e=>by rw[h.block _ (lt_of_heap e)];exact e
theorem IK.Uf{w W:World}(h:qC w W):IK w W:=fun b cur fz e=>h.heap e (iN (by decide) (by decide))
theorem IK.set{w:World}{x:Nat}{Z:Array Value}{t:TypeId}{f:Nat×Nat}(hx:w.heap[x]?=some (.cells Z t f))(ht:3≠t)(o:Nat)(v:Value):IK w (w.setCell ⟨x,o,none⟩ v):=fun b cur fz e=>(Kb.setCell w ⟨x,o,none⟩ v).heap e (by simpa using lN e hx ht)
theorem pR.mono{w:World}{B eg:Nat}{kl:List Ax.aM}{gv:Nat→Bool}{n f g:Nat}(h:pR w B eg kl gv n f)(hg:g≤f):pR w B eg kl gv n g:=fun S W hk hS=>h S W hk (fun b hb=>by
 obtain⟨cur,t,fz,e,ht⟩:=hS b hb
 exact⟨cur,t,fz,e,ht.imp id (fun ⟨a,b⟩=>⟨a,Nat.lt_of_lt_of_le b hg⟩)⟩)
theorem pR.below{w w':World}{B eg:Nat}{kl:List Ax.aM}{gv:Nat→Bool}{n f:Nat}(h:pR w B eg kl gv n f)(hb:Below w.heap.size w w'){x:Nat}{Z:Array Value}(hs:w.heap[x]?=some (.cells Z 43 (0,0)))(hf:f≤w.heap.size):pR w' B eg kl gv n f:=by
 intro S W hk hS
 refine h (S.filter (fun b=>decide (b<w.heap.size))) W ?_ ?_
 · exact((Kb.bG hb S).trans hk).mono (fun i hi aC=>List.mem_filter.2 ⟨hi,decide_eq_true aC⟩)
 · intro b cM
   rw[List.mem_filter]at cM
   have aC:b<w.heap.size:=of_decide_eq_true cM.2
   obtain⟨cur,t,fz,e,ht⟩:=hS b cM.1
   rw[hb.block b aC]at e
   exact⟨cur,t,fz,e,ht⟩
theorem pR.off{w w':World}{B eg:Nat}{kl:List Ax.aM}{gv:Nat→Bool}{n f:Nat}(h:pR w B eg kl gv n f){x:Nat}(hk:Kb [x] w w'){Z:Array Value}{g:Nat×Nat}(hx:w.heap[x]?=some (.cells Z 43 g))(hs:w'.heap.size=w.heap.size):pR w' B eg kl gv n f:=by
 intro S W ml hS
 refine h (x::S) W ?_ ?_
 · exact(hk.mono (fun i hi _=>by simp at hi;simp[hi])).trans (ml.mono (fun i hi _=>List.mem_cons_of_mem _ hi))
 · intro b hb
   rcases List.mem_cons.1 hb with rfl | hb
   · exact⟨_,_,_,hx,.inl rfl⟩
   · by_cases nG:b=x
     · subst nG
       exact⟨_,_,_,hx,.inl rfl⟩
     · obtain⟨cur,t,fz,e,ht⟩:=hS b hb
       have aC:=lt_of_heap e
       rw[hk.block b (by omega) (by simpa using nG)]at e
       exact⟨cur,t,fz,e,ht⟩
structure rI(K:Nat→Int)(ct:ByteArray)(B:Nat)(w wr:World)(sb eg:Nat)(rv:Value)(kl:List Ax.aM)(gs ge:Nat→Bool)(n:Nat)(sc:Array Value):Prop where
 sh:vV B wr sb eg rv kl gs ge n
 be:Below B w wr
 box:wr.heap[w.heap.size]?=some (.cells sc 33 (0,0))
 ik:IK w wr
 hx:vy K w wr sb eg ct
 ep:pR wr B eg kl ge n w.heap.size
theorem rI.set{K:Nat→Int}{ct:ByteArray}{B:Nat}{w wr:World}{sb eg:Nat}{rv:Value}{kl:List Ax.aM}{gs ge:Nat→Bool}{n:Nat}{sc:Array Value}(h:rI K ct B w wr sb eg rv kl gs ge n sc)(i:Nat)(b:Bool):rI K ct B w (wr.setCell ⟨sb,2+i,none⟩ (.bool b)) sb eg rv kl (jR gs i b) ge n sc:=by
 obtain⟨h1,h2⟩:=h.sh.set i b
 have hs:=h.sh.wj
 unfold iE at hs
 have cL:w.heap.size≠sb:=lN h.box hs (by decide)
 refine⟨h1,h.be.trans h2, ?_,h.ik.trans (IK.set hs (by decide) _ _),h.hx.set hs _ _,h.ep.off (Kb.setCell wr ⟨sb,2+i,none⟩ (.bool b)) hs (by simp)⟩
 exact(Kb.setCell wr ⟨sb,2+i,none⟩ (.bool b)).heap h.box (by simpa using cL)
theorem rI.drew{K:Nat→Int}{ct:ByteArray}{B:Nat}{w wr:World}{sb eg:Nat}{rv:Value}{kl:List Ax.aM}{gs ge:Nat→Bool}{n:Nat}{sc:Array Value}(h:rI K ct B w wr sb eg rv kl gs ge n sc)(hB:B≤wr.heap.size):rI K ct B w wr.drew sb eg rv kl gs ge n sc:=by
 have hb:Below wr.heap.size wr wr.drew:=(Below.refl _ _).drew
 exact⟨h.sh.below hb,h.be.drew,h.box,h.ik,h.hx.below hb,h.ep.below hb h.sh.wj (Nat.le_of_lt (lt_of_heap h.box))⟩
theorem rI.BF{K:Nat→Int}{ct:ByteArray}{B:Nat}{w wr:World}{sb eg:Nat}{rv:Value}{kl:List Ax.aM}{gs ge:Nat→Bool}{n:Nat}{x y:Value}(h:rI K ct B w wr sb eg rv kl gs ge n #[x,y]):wr.cell? ⟨sb,0,none⟩=some (.pointer (some ⟨eg,0,none⟩))∧wr.cell? ⟨w.heap.size,0,none⟩=some x∧wr.cell? ⟨w.heap.size,1,none⟩=some y:=
 ⟨h.sh.wj.cells.1,by rw[cell_of_row _ _ _ _ _ _ h.box];rfl,by rw[cell_of_row _ _ _ _ _ _ h.box];rfl⟩
theorem LK(K:Nat→Int)(B:Nat)(w:World)(sb eg:Nat)(rv:Value)(kl:List Ax.aM)(gv:Nat→Bool)(n:Nat)(h:vV B w sb eg rv kl gv gv n)(hn:n≤2000000)(hK:∀W,Below B w W→Dg.C4 W K∧fw W)
 (a1:Option Addr)(n1 c1:Nat)(C:List Int)(hC:∀W,Below B w W→IK w W→fF W a1 n1 c1 C)(W4:∀g o,a1=some ⟨g,o,none⟩→0<C.length→g≠sb)(a2:Option Addr)(n2 c2:Nat)(G:List Int)(hG:∀W,Below B w W→IK w W→fF W a2 n2 c2 G)(Wo:∀g o,a2=some ⟨g,o,none⟩→0<G.length→g≠sb):
 Calls Tryz.prog 15 #[.pointer (some ⟨sb,0,none⟩),.agg #[.slice a1 n1 c1,.slice a2 n2 c2]] w fun e w'=>e=.returned (.bool true)∧vV B w' sb eg rv kl (aq (aq gv (idxs C) true) (idxs G) false) (aq (aq gv (idxs C) true) (idxs G) false) (n+1)∧Below B w w'∧IK w w'∧vy K w w' sb eg ⟨(Rc.WU (idxs C) (idxs G)).toArray⟩∧pR w' B eg kl (aq (aq gv (idxs C) true) (idxs G) false) (n+1) w.heap.size:=by
 have agQ:=(h.cell (i:=0) (by omega)).2.2
 have hBs:B≤w.heap.size:=by have:=h.le;omega
 have aaT:=(hC w (Below.refl _ _) (IK.refl w)).len
 have adB:=(hG w (Below.refl _ _) (IK.refl w)).len
 subst aaT
 subst adB
 have TN:=(hC w (Below.refl _ _) (IK.refl w)).cap
 have Tc:=(hG w (Below.refl _ _) (IK.refl w)).cap
 have ai6:c1≤9223372036854775807:=(hC w (Below.refl _ _) (IK.refl w)).max
 have aiA:c2≤9223372036854775807:=(hG w (Below.refl _ _) (IK.refl w)).max
 obtain⟨ct,Qt⟩:∃ct:ByteArray,ct=⟨(Rc.WU (idxs C) (idxs G)).toArray⟩:=⟨_,rfl⟩
 have Sz:Hid (ct=⟨(Rc.WU (idxs C) (idxs G)).toArray⟩):=Qt
 obtain⟨w1,sP⟩:∃w1,w1=w.alloc (.cells #[.slice a1 C.length c1,.slice a2 G.length c2] 33):=⟨_,rfl⟩
 have bk:Below w.heap.size w w1:=by rw[sP];exact(Below.refl _ _).alloc (Nat.le_refl _) _
 have nG:w1.heap[w.heap.size]?=some (.cells #[.slice a1 C.length c1,.slice a2 G.length c2] 33 (0,0)):=by rw[sP];exact heap_alloc_new w _
 have Um:=lt_of_heap nG
 have GB:∀W,Below w1.heap.size w1 W→Below B w W:=fun W hW=>(bk.mono hBs).trans (hW.mono (by have:=bk.size;omega))
 have zN:Hid (∀W,Below w1.heap.size w1 W→W.cell? ⟨sb,0,none⟩=some (.pointer (some ⟨eg,0,none⟩))∧W.cell? ⟨w.heap.size,0,none⟩=some (.slice a1 C.length c1)∧W.cell? ⟨w.heap.size,1,none⟩=some (.slice a2 G.length c2)):=by
  intro W hW
  have h9:W.heap[w.heap.size]?=some (.cells #[.slice a1 C.length c1,.slice a2 G.length c2] 33 (0,0)):=by rw[hW.block _ Um];exact nG
  exact⟨((h.wj.below bk).below hW).cells.1,by rw[cell_of_row _ _ _ _ _ _ h9];rfl,by rw[cell_of_row _ _ _ _ _ _ h9];rfl⟩
 have HIK:Hid (∀W,Below w1.heap.size w1 W→IK w W):=fun W hW=>IK.bG (bk.trans (hW.mono bk.size))
 have FJ:Hid (∀a m c L W,(∀W',Below B w W'→IK w W'→fF W' a m c L)→Below w1.heap.size w1 W→Calls Tryz.prog 39 #[.slice a m c] W fun e w'=>∃fd fc l,e=.returned (.slice fd (List.length l) fc)∧Nb L fd fc l w'∧Below W.heap.size W w'∧Below w1.heap.size w1 w'):=by
  intro a m c L W hL hW
  refine(GF W a m c L (hL W (GB W hW) (HIK.out W hW))).mono ?_
  rintro e w' ⟨v,l,rfl,hF⟩
  obtain⟨fd,fc,rfl,hf⟩:=Vy hF
  exact⟨fd,fc,l,rfl,hf,hF.be,hW.trans (hF.be.mono hW.size)⟩
 have Q1:Hid (∀W vS vZ l1 TC Tk l2,Below w1.heap.size w1 W→Nb C vS vZ l1 W→Nb G TC Tk l2 W→Calls Tryz.prog 38 #[.pointer (some ⟨eg,0,none⟩),.slice vS (List.length l1) vZ,.slice TC (List.length l2) Tk] W fun e w'=>e=.returned (.int .i64 0)∧rI K ct B w w' sb eg rv kl gv (aq (aq gv (idxs C) true) (idxs G) false) (n+1) #[.slice a1 C.length c1,.slice a2 G.length c2]):=by
  intro W vS vZ l1 TC Tk l2 hW h1 h2
  have LZ:=GB W hW
  have hS:=(h.below bk).below hW
  refine(Nu K W B eg kl gv n hS.Wp hn (hK W LZ).1 (hK W LZ).2 vS vZ l1 TC Tk l2 h1.C1 h2.C1 _ _ h1.idx h2.idx h1.len h2.len).mono ?_
  rintro e w' ⟨rfl,q1,q2,q3,q4,q5⟩
  rw[B9 h1.idx h2.idx,←Sz.out]at q4
  refine⟨rfl,⟨hS.wj.VL q2,q1,hS.le⟩,LZ.trans q3, ?_,(HIK.out W hW).trans (IK.Uf q2),vy.of_next (bk.trans (hW.mono bk.size)) q4,q5.mono (Nat.le_trans bk.size hW.size)⟩
  exact q2.heap (by rw[hW.block _ Um];exact nG) (iN (by decide) (by decide))
 have HC:Hid (∀W,Below B w W→IK w W→fF W a1 C.length c1 C):=hC
 have HG:Hid (∀W,Below B w W→IK w W→fF W a2 G.length c2 G):=hG
 have TF:Hid (∀g o,a1=some ⟨g,o,none⟩→0<C.length→g≠sb):=W4
 have HG0:Hid (∀g o,a2=some ⟨g,o,none⟩→0<G.length→g≠sb):=Wo
 have hle:=h.le
 have U0:Below w1.heap.size w1 w1:=Below.refl _ _
 generalize BO:aq (aq gv (idxs C) true) (idxs G) false=ge at Q1 ⊢
 have Z2:Hid (aq (aq gv (idxs C) true) (idxs G) false=ge):=BO
 clear h hK hC hG W4 Wo nG bk GB BO HIK Qt
 go_enter Tryz.func15,Tryz.ntmps15
 go_upto_region 1 with fail
 rw[←sP]
 clear sP
 go_cut [5]from 8 (fun v5 wx=>v5=.int .i64 0∧Hid (rI K ct B w wx sb eg rv kl gv ge (n+1) #[.slice a1 C.length c1,.slice a2 G.length c2]))
 case first=>
  go_region_held3 (fun W=>W.cell? ⟨sb,0,none⟩=some (.pointer (some ⟨eg,0,none⟩))∧W.cell? ⟨w.heap.size,0,none⟩=some (.slice a1 C.length c1)∧W.cell? ⟨w.heap.size,1,none⟩=some (.slice a2 G.length c2)) (first | (exact zN.out _ (by assumption)) | (exact zN.out _ (Below.drew (by assumption))) | (exact rI.BF (by assumption))) (first | (go_at_call 39;refine(FJ.out _ _ _ _ _ (by first | exact HC.out | exact HG.out) (by first | assumption | exact Below.drew (by assumption))).mono ?_;rintro e wn ⟨fd,fc,lf,rfl,hF,hBn,aiM⟩) | (go_at_call 38;refine(Q1.out _ _ _ _ _ _ _ (by assumption) (by first | assumption | exact Nb.below (by assumption) (by assumption)) (by first | assumption | exact Nb.below (by assumption) (by assumption))).mono ?_;rintro e wn ⟨rfl,hAw⟩))
  all_goals
   (go_wp2_with fail
    go_meet
    exact⟨rfl,by assumption⟩)
 case rest=>
  obtain⟨hv5,hcw⟩:=hcut
  subst hv5
  have HE0:Hid (rI K ct B w wc sb eg rv kl (aq gv ((idxs C).take 0) true) ge (n+1) #[.slice a1 C.length c1,.slice a2 G.length c2]):=hcw.out
  clear hcw zN FJ Q1 U0 Um
  go_wp2_with fail
  go_loopw [6] (fun i wr=>∃(k:Nat),k≤C.length∧k≤30∧i=.int .i64 k∧rI K ct B w wr sb eg rv kl (aq gv ((idxs C).take k) true) ge (n+1) #[.slice a1 C.length c1,.slice a2 G.length c2]) (fun i _=>30-(intOf i).toNat)
  case atStart=>exact⟨0,Nat.zero_le _,by omega,rfl,HE0.out⟩
  case round=>
   obtain⟨k,hk,VW,rfl,hA⟩:=hrel
   obtain⟨y0,y1,y2⟩:=hA.BF
   have Ui:=lt_of_heap hA.box
   have HA:Hid (rI K ct B w wr sb eg rv kl (aq gv ((idxs C).take k) true) ge (n+1) #[.slice a1 C.length c1,.slice a2 G.length c2]):=hA
   clear HE0
   by_cases aC:k<C.length
   · have Vq:decide ((k:Int)<(C.length:Int))=true:=decide_eq_true (by omega)
     by_cases PV:k<30
     · have Mu:decide ((k:Int)<30)=true:=decide_eq_true (by omega)
       obtain⟨g,o,rfl,ca,jF⟩:=(HC.out wr hA.be hA.ik).at_ k aC
       have Na:g≠sb:=TF.out g o rfl (by omega)
       have XB:sb≠g:=fun e=>Na e.symm
       have Zh:w.heap.size≠sb:=by omega
       have Yu:sb≠w.heap.size:=by omega
       have NG:Ax.a8 C[k] 36<36:=Ax.ef _ _ (by decide)
       obtain⟨l1,l2,l3⟩:=hA.sh.cell NG
       have Ir:B≤wr.heap.size:=by have:=hA.be.size;omega
       have HX:Hid (rI K ct B w (wr.drew.setCell ⟨sb,2+Ax.a8 C[k] 36,none⟩ (.bool true)) sb eg rv kl (aq gv ((idxs C).take (k+1)) true) ge (n+1) #[.slice (some ⟨g,o,none⟩) C.length c1,.slice a2 G.length c2]):=by
        rw[tE aC PV,iC]
        exact(hA.drew Ir).set _ _
       have JF:=fun W=>oP C[k] 36 W jF (by decide) (by decide)
       generalize aq gv ((idxs C).take k) true (Ax.a8 C[k] 36)=ob at l1
       clear hA jF HA
       generalize Ax.a8 C[k] 36=R at*
       generalize C[k]=cv at*
       have XS:(0:Int)≤(R:Int):=by omega
       have hRi:(R:Int)<36:=by omega
       go_wp2_with fail
       go_region_held3 (fun W=>W.cell? ⟨w.heap.size,0,none⟩=some (.slice (some ⟨g,o,none⟩) C.length c1)∧W.cell? ⟨g,o+k,none⟩=some (.int .i64 cv)) (go_keep) ((go_at_call 27;refine(JF _).mono ?_;rintro e w' ⟨rfl,hw⟩;subst hw))
       all_goals
        (go_wp2_with fail
         go_roundw
         case rel=>exact⟨k+1,aC,PV,by go_num,HX.out⟩
         case measure=>(simp[intOf];omega))
     · have Mu:decide ((k:Int)<30)=false:=decide_eq_false (by omega)
       have Lc:Hid (rI K ct B w wr sb eg rv kl (aq gv (idxs C) true) ge (n+1) #[.slice a1 C.length c1,.slice a2 G.length c2]):=by
        have h9:=HA.out
        rw[mN (by omega)]at h9
        exact h9
       clear hA HA
       go_wp2_with fail
       have YS:Hid (rI K ct B w wr sb eg rv kl (aq (aq gv (idxs C) true) ((idxs G).take 0) false) ge (n+1) #[.slice a1 C.length c1,.slice a2 G.length c2]):=Lc.out
       clear Lc y0 y1 y2 Ui
       go_loopw [7] (fun i wr=>∃(k:Nat),k≤G.length∧k≤30∧i=.int .i64 k∧rI K ct B w wr sb eg rv kl (aq (aq gv (idxs C) true) ((idxs G).take k) false) ge (n+1) #[.slice a1 C.length c1,.slice a2 G.length c2]) (fun i _=>30-(intOf i).toNat)
       case atStart=>exact⟨0,Nat.zero_le _,by omega,rfl,YS.out⟩
       case round=>
        obtain⟨k,hk,VW,rfl,hA⟩:=hrel
        obtain⟨y0,y1,y2⟩:=hA.BF
        have Ui:=lt_of_heap hA.box
        have HA:Hid (rI K ct B w wr sb eg rv kl (aq (aq gv (idxs C) true) ((idxs G).take k) false) ge (n+1) #[.slice a1 C.length c1,.slice a2 G.length c2]):=hA
        clear YS
        by_cases aC:k<G.length
        · have Vq:decide ((k:Int)<(G.length:Int))=true:=decide_eq_true (by omega)
          by_cases PV:k<30
          · have Mu:decide ((k:Int)<30)=true:=decide_eq_true (by omega)
            obtain⟨g,o,rfl,ca,jF⟩:=(HG.out wr hA.be hA.ik).at_ k aC
            have Na:g≠sb:=HG0.out g o rfl (by omega)
            have XB:sb≠g:=fun e=>Na e.symm
            have Zh:w.heap.size≠sb:=by omega
            have Yu:sb≠w.heap.size:=by omega
            have NG:Ax.a8 G[k] 36<36:=Ax.ef _ _ (by decide)
            obtain⟨l1,l2,l3⟩:=hA.sh.cell NG
            have Ir:B≤wr.heap.size:=by have:=hA.be.size;omega
            have HX:Hid (rI K ct B w (wr.drew.setCell ⟨sb,2+Ax.a8 G[k] 36,none⟩ (.bool false)) sb eg rv kl (aq (aq gv (idxs C) true) ((idxs G).take (k+1)) false) ge (n+1) #[.slice a1 C.length c1,.slice (some ⟨g,o,none⟩) G.length c2]):=by
             rw[tE aC PV,iC]
             exact(hA.drew Ir).set _ _
            have JF:=fun W=>oP G[k] 36 W jF (by decide) (by decide)
            generalize aq (aq gv (idxs C) true) ((idxs G).take k) false (Ax.a8 G[k] 36)=ob at l1
            clear hA jF HA
            generalize Ax.a8 G[k] 36=R at*
            generalize G[k]=cv at*
            have XS:(0:Int)≤(R:Int):=by omega
            have hRi:(R:Int)<36:=by omega
            go_wp2_with fail
            go_region_held3 (fun W=>W.cell? ⟨w.heap.size,1,none⟩=some (.slice (some ⟨g,o,none⟩) G.length c2)∧W.cell? ⟨g,o+k,none⟩=some (.int .i64 cv)) (go_keep) ((go_at_call 27;refine(JF _).mono ?_;rintro e w' ⟨rfl,hw⟩;subst hw))
            all_goals
             (go_wp2_with fail
              go_roundw
              case rel=>exact⟨k+1,aC,PV,by go_num,HX.out⟩
              case measure=>(simp[intOf];omega))
          · have Mu:decide ((k:Int)<30)=false:=decide_eq_false (by omega)
            have Lc:Hid (rI K ct B w wr sb eg rv kl (aq (aq gv (idxs C) true) (idxs G) false) ge (n+1) #[.slice a1 C.length c1,.slice a2 G.length c2]):=by
             have h9:=HA.out
             rw[mN (by omega)]at h9
             exact h9
            clear hA HA
            go_wp2_with fail
            go_ret
            refine⟨rfl, ?_⟩
            have h9:=Lc.out
            rw[Z2.out]at h9
            rw[←Sz.out]
            exact⟨h9.sh,h9.be,h9.ik,h9.hx,h9.ep⟩
        · have Vq:decide ((k:Int)<(G.length:Int))=false:=decide_eq_false (by omega)
          have Lc:Hid (rI K ct B w wr sb eg rv kl (aq (aq gv (idxs C) true) (idxs G) false) ge (n+1) #[.slice a1 C.length c1,.slice a2 G.length c2]):=by
           have h9:=HA.out
           rw[mN (by omega)]at h9
           exact h9
          clear hA HA
          go_wp2_with fail
          go_ret
          refine⟨rfl, ?_⟩
          have h9:=Lc.out
          rw[Z2.out]at h9
          rw[←Sz.out]
          exact⟨h9.sh,h9.be,h9.ik,h9.hx,h9.ep⟩
   · have Vq:decide ((k:Int)<(C.length:Int))=false:=decide_eq_false (by omega)
     have Lc:Hid (rI K ct B w wr sb eg rv kl (aq gv (idxs C) true) ge (n+1) #[.slice a1 C.length c1,.slice a2 G.length c2]):=by
      have h9:=HA.out
      rw[mN (by omega)]at h9
      exact h9
     clear hA HA
     go_wp2_with fail
     have YS:Hid (rI K ct B w wr sb eg rv kl (aq (aq gv (idxs C) true) ((idxs G).take 0) false) ge (n+1) #[.slice a1 C.length c1,.slice a2 G.length c2]):=Lc.out
     clear Lc y0 y1 y2 Ui
     go_loopw [7] (fun i wr=>∃(k:Nat),k≤G.length∧k≤30∧i=.int .i64 k∧rI K ct B w wr sb eg rv kl (aq (aq gv (idxs C) true) ((idxs G).take k) false) ge (n+1) #[.slice a1 C.length c1,.slice a2 G.length c2]) (fun i _=>30-(intOf i).toNat)
     case atStart=>exact⟨0,Nat.zero_le _,by omega,rfl,YS.out⟩
     case round=>
      obtain⟨k,hk,VW,rfl,hA⟩:=hrel
      obtain⟨y0,y1,y2⟩:=hA.BF
      have Ui:=lt_of_heap hA.box
      have HA:Hid (rI K ct B w wr sb eg rv kl (aq (aq gv (idxs C) true) ((idxs G).take k) false) ge (n+1) #[.slice a1 C.length c1,.slice a2 G.length c2]):=hA
      clear YS
      by_cases aC:k<G.length
      · have Vq:decide ((k:Int)<(G.length:Int))=true:=decide_eq_true (by omega)
        by_cases PV:k<30
        · have Mu:decide ((k:Int)<30)=true:=decide_eq_true (by omega)
          obtain⟨g,o,rfl,ca,jF⟩:=(HG.out wr hA.be hA.ik).at_ k aC
          have Na:g≠sb:=HG0.out g o rfl (by omega)
          have XB:sb≠g:=fun e=>Na e.symm
          have Zh:w.heap.size≠sb:=by omega
          have Yu:sb≠w.heap.size:=by omega
          have NG:Ax.a8 G[k] 36<36:=Ax.ef _ _ (by decide)
          obtain⟨l1,l2,l3⟩:=hA.sh.cell NG
          have Ir:B≤wr.heap.size:=by have:=hA.be.size;omega
          have HX:Hid (rI K ct B w (wr.drew.setCell ⟨sb,2+Ax.a8 G[k] 36,none⟩ (.bool false)) sb eg rv kl (aq (aq gv (idxs C) true) ((idxs G).take (k+1)) false) ge (n+1) #[.slice a1 C.length c1,.slice (some ⟨g,o,none⟩) G.length c2]):=by
           rw[tE aC PV,iC]
           exact(hA.drew Ir).set _ _
          have JF:=fun W=>oP G[k] 36 W jF (by decide) (by decide)
          generalize aq (aq gv (idxs C) true) ((idxs G).take k) false (Ax.a8 G[k] 36)=ob at l1
          clear hA jF HA
          generalize Ax.a8 G[k] 36=R at*
          generalize G[k]=cv at*
          have XS:(0:Int)≤(R:Int):=by omega
          have hRi:(R:Int)<36:=by omega
          go_wp2_with fail
          go_region_held3 (fun W=>W.cell? ⟨w.heap.size,1,none⟩=some (.slice (some ⟨g,o,none⟩) G.length c2)∧W.cell? ⟨g,o+k,none⟩=some (.int .i64 cv)) (go_keep) ((go_at_call 27;refine(JF _).mono ?_;rintro e w' ⟨rfl,hw⟩;subst hw))
          all_goals
           (go_wp2_with fail
            go_roundw
            case rel=>exact⟨k+1,aC,PV,by go_num,HX.out⟩
            case measure=>(simp[intOf];omega))
        · have Mu:decide ((k:Int)<30)=false:=decide_eq_false (by omega)
          have Lc:Hid (rI K ct B w wr sb eg rv kl (aq (aq gv (idxs C) true) (idxs G) false) ge (n+1) #[.slice a1 C.length c1,.slice a2 G.length c2]):=by
           have h9:=HA.out
           rw[mN (by omega)]at h9
           exact h9
          clear hA HA
          go_wp2_with fail
          go_ret
          refine⟨rfl, ?_⟩
          have h9:=Lc.out
          rw[Z2.out]at h9
          rw[←Sz.out]
          exact⟨h9.sh,h9.be,h9.ik,h9.hx,h9.ep⟩
      · have Vq:decide ((k:Int)<(G.length:Int))=false:=decide_eq_false (by omega)
        have Lc:Hid (rI K ct B w wr sb eg rv kl (aq (aq gv (idxs C) true) (idxs G) false) ge (n+1) #[.slice a1 C.length c1,.slice a2 G.length c2]):=by
         have h9:=HA.out
         rw[mN (by omega)]at h9
         exact h9
        clear hA HA
        go_wp2_with fail
        go_ret
        refine⟨rfl, ?_⟩
        have h9:=Lc.out
        rw[Z2.out]at h9
        rw[←Sz.out]
        exact⟨h9.sh,h9.be,h9.ik,h9.hx,h9.ep⟩
theorem Lj(K:Nat→Int)(B:Nat)(w:World)(sb eg:Nat)(rv:Value)(kl:List Ax.aM)(gv:Nat→Bool)(n:Nat)(h:vV B w sb eg rv kl gv gv n)(hn:n≤2000000)(hK:∀W,Below B w W→Dg.C4 W K∧fw W)
 (a1:Option Addr)(n1 c1:Nat)(C:List Int)(hC:∀W,Below B w W→IK w W→fF W a1 n1 c1 C)(W4:∀g o,a1=some ⟨g,o,none⟩→0<C.length→g≠sb)(a2:Option Addr)(n2 c2:Nat)(G:List Int)(hG:∀W,Below B w W→IK w W→fF W a2 n2 c2 G)(Wo:∀g o,a2=some ⟨g,o,none⟩→0<G.length→g≠sb):
 Calls Tryz.prog 15 #[.pointer (some ⟨sb,0,none⟩),.agg #[.slice a1 n1 c1,.slice a2 n2 c2]] w fun e w'=>e=.returned (.bool true)∧vV B w' sb eg rv kl (aq (aq gv (idxs C) true) (idxs G) false) (aq (aq gv (idxs C) true) (idxs G) false) (n+1)∧Below B w w'∧IK w w'∧vy K w w' sb eg ⟨(Rc.WU (idxs C) (idxs G)).toArray⟩:=
 (LK K B w sb eg rv kl gv n h hn hK a1 n1 c1 C hC W4 a2 n2 c2 G hG Wo).mono (fun _ _ ⟨h1,h2,h3,h4,h5,_⟩=>⟨h1,h2,h3,h4,h5⟩)
theorem G9(K:Nat→Int)(B:Nat)(w:World)(sb eg:Nat)(rv:Value)(kl:List Ax.aM)(gv:Nat→Bool)(n:Nat)(h:vV B w sb eg rv kl gv gv n)(hn:n≤2000000)(hK:∀W,Below B w W→Dg.C4 W K∧fw W)
 (a1:Option Addr)(n1 c1:Nat)(C:List Int)(hC:∀W,Below B w W→IK w W→fF W a1 n1 c1 C)(W4:∀g o,a1=some ⟨g,o,none⟩→0<C.length→g≠sb)(a2:Option Addr)(n2 c2:Nat)(G:List Int)(hG:∀W,Below B w W→IK w W→fF W a2 n2 c2 G)(Wo:∀g o,a2=some ⟨g,o,none⟩→0<G.length→g≠sb):
 Calls Tryz.prog 15 #[.pointer (some ⟨sb,0,none⟩),.agg #[.slice a1 n1 c1,.slice a2 n2 c2]] w fun e w'=>e=.returned (.bool true)∧vV B w' sb eg rv kl (aq (aq gv (idxs C) true) (idxs G) false) (aq (aq gv (idxs C) true) (idxs G) false) (n+1)∧Below B w w'∧IK w w':=
 (Lj K B w sb eg rv kl gv n h hn hK a1 n1 c1 C hC W4 a2 n2 c2 G hG Wo).mono (fun _ _ ⟨h1,h2,h3,h4,_⟩=>⟨h1,h2,h3,h4⟩)
end
/- axiomkeep.shop. -/
section
open Go.RowKit Go.Maps
theorem yU.lower{w:World}{B B' eg:Nat}{kl:List Ax.aM}{gv:Nat→Bool}{n:Nat}(h:yU w B eg kl gv n)(hB:B'≤B):yU w B' eg kl gv n:=by
 obtain⟨pl,rd,rc,l,gm,G,hm,T,s,hd,lv,ln,lx,eb,dQ,he,hG,hR,hH,hI,hT,cN,va,Dc,DY⟩:=h.at_
 exact⟨⟨pl,rd,rc,l,gm,G,hm,T,s,hd,lv,ln,lx,eb,dQ,he,hG,hR,hH,hI,hT,cN,aN va hB,Dc,DY⟩,Nat.le_trans hB h.ge⟩
theorem IB{B:Nat}{w:World}{eg:Nat}{kl:List Ax.aM}(rv:Value)(h:yU w B eg kl (fun _=>false) 0)(hB:B≤w.heap.size):vV B (w.alloc (.cells (pq eg rv (fun _=>false)) 43)) w.heap.size eg rv kl (fun _=>false) (fun _=>false) 0:=
 ⟨heap_alloc_new _ _,h.below ((Below.refl _ _).alloc (Nat.le_refl _) _),hB⟩
theorem Np(K:Nat→Int)(w:World)(ad:Option Addr)(m c:Nat)(kl:List Ax.aM)(hR:rZ w ad m c kl)(hK:Dg.C4 w K):
 Calls Tryz.prog 13 #[.slice ad m c] w fun e w'=>∃sb eg,e=.returned (.pointer (some ⟨sb,0,none⟩))∧vV w.heap.size w' sb eg (.slice ad (min m 6) c) kl (fun _=>false) (fun _=>false) 0∧Below w.heap.size w w':=by
 have zS:Hid (Calls Tryz.prog 35 #[.slice ad m c] w fun e w'=>e=.returned (.string (Ax.aH kl))∧Hid (Below w.heap.size w w')):=(Ng w ad m c kl hR (Ax.aH kl) (Ht kl)).mono (fun e w' ⟨a,b,_⟩=>⟨a,b⟩)
 have Xa:Hid (∀W,Below w.heap.size w W→Calls Tryz.prog 34 #[.string (Ax.aH kl)] W fun e w'=>∃eg,e=.returned (.tuple #[.pointer (some ⟨eg,0,none⟩),.int .i64 0,.int .i64 0])∧Hid (yU w' W.heap.size eg kl (fun _=>false) 0∧Below W.heap.size W w')):=fun W hW=>(QR kl K W (hK.below hW)).mono (fun e w' ⟨eg,a,b⟩=>⟨eg,a,b⟩)
 have hmc:=hR.cap
 have Ca:c≤9223372036854775807:=hR.max
 have HAD:Hid (6<m→∃g o,ad=some ⟨g,o,none⟩):=fun h6=>by
  obtain⟨g,o,e,_⟩:=hR.at_ 0 (by rw[hR.len];omega)
  exact⟨g,o,e⟩
 clear hR hK
 by_cases h6:6<m
 · obtain⟨g,o,rfl⟩:=HAD.out h6
   have hd6:decide ((6:Int)<(m:Int))=true:=decide_eq_true (by omega)
   rw[Nat.min_eq_right (by omega)]
   clear HAD
   go_enter Tryz.func13,Tryz.ntmps13
   go_wp2_with (first | (go_at_call 35;refine zS.out.mono ?_;rintro e w1 ⟨rfl,mQ⟩) | (go_at_call 34;refine(Xa.out _ mQ.out).mono ?_;rintro e w2 ⟨eg,rfl,HN⟩))
   have cM:Below w.heap.size w w2:=mQ.out.trans (HN.out.2.mono mQ.out.size)
   go_ret
   refine⟨w2.heap.size,eg,rfl, ?_,cM.alloc cM.size _⟩
   have hE:yU w2 w.heap.size eg kl (fun _=>false) 0:=HN.out.1.lower mQ.out.size
   exact IB (.slice (some ⟨g,o,none⟩) 6 c) hE cM.size
 · have hd6:decide ((6:Int)<(m:Int))=false:=decide_eq_false (by omega)
   rw[Nat.min_eq_left (by omega)]
   clear HAD
   go_enter Tryz.func13,Tryz.ntmps13
   go_wp2_with (first | (go_at_call 35;refine zS.out.mono ?_;rintro e w1 ⟨rfl,mQ⟩) | (go_at_call 34;refine(Xa.out _ mQ.out).mono ?_;rintro e w2 ⟨eg,rfl,HN⟩))
   have cM:Below w.heap.size w w2:=mQ.out.trans (HN.out.2.mono mQ.out.size)
   go_ret
   refine⟨w2.heap.size,eg,rfl, ?_,cM.alloc cM.size _⟩
   have hE:yU w2 w.heap.size eg kl (fun _=>false) 0:=HN.out.1.lower mQ.out.size
   exact IB (.slice ad m c) hE cM.size
end
/- axiomkeep.Least, walked. -/
section
open Go.RowKit Go.Maps
structure F8(w:World)(ad:Option Addr)(n c:Nat)(l:List (List Int×List Int)):Prop where
 len:l.length=n
 cap:n≤c
 max:c≤maxLen
 at_:∀k (h:k<l.length),∃g o,ad=some ⟨g,o,none⟩∧∃a1 n1 c1 a2 n2 c2,w.cell? ⟨g,o+k*2,none⟩=some (.slice a1 n1 c1)∧w.cell? ⟨g,o+k*2+1,none⟩=some (.slice a2 n2 c2)∧fF w a1 n1 c1 (l[k]).1∧fF w a2 n2 c2 (l[k]).2
theorem fF.lt{w:World}{ad:Option Addr}{n c:Nat}{l:List Int}(h:fF w ad n c l):∀g o,ad=some ⟨g,o,none⟩→0<l.length→g<w.heap.size:=by
 intro g o e hl
 obtain⟨g',o',e',ca,_⟩:=h.at_ 0 hl
 rw[e]at e'
 simp only[Option.some.injEq,Addr.mk.injEq,and_true]at e'
 obtain⟨rfl,rfl⟩:=e'
 exact block_lt_of_cell ca
def oO(gv:Nat→Bool)(x:List Int×List Int):Nat→Bool:=aq (aq gv (idxs x.1) true) (idxs x.2) false
def jC(l:List (List Int×List Int)):Nat→Bool:=l.foldl oO (fun _=>false)
theorem Hl(l:List (List Int×List Int))(x:List Int×List Int):jC (l++[x])=oO (jC l) x:=by simp[jC]
theorem Kz{gv:Nat→Bool}(h:nu gv)(x:List Int×List Int):nu (oO gv x):=nu.ix _ (nu.ix _ h (Cg _)) (Cg _)
theorem AX:∀(l:List (List Int×List Int)) {gv:Nat→Bool},nu gv→nu (l.foldl oO gv)
 | [],_,h=>h
 | x::l,_,h=>AX l (Kz h x)
theorem MU(l:List (List Int×List Int)):nu (jC l):=AX l (fun _ _=>rfl)
end
end Go.Proofs.YtdmicblafmhflaaGreatDoor

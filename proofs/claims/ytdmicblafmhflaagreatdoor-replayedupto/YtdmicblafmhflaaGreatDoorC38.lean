/- axiomkeep.Shop.apply, walked. -/
import Derived.Test.YtdmicblafmhflaaGreatDoorC37
set_option linter.unusedSimpArgs false
set_option linter.unusedVariables false
set_option maxHeartbeats 4000000
set_option maxRecDepth 100000
namespace Go.Proofs.YtdmicblafmhflaaGreatDoor
section
open Go.RowKit Go.Maps
namespace Rc
def fD(i:Nat):List UInt8:=aC (be i).1++(be i).2.flatMap aC
def u5(ci gi:List Nat):List UInt8:=(aQ ci.length++ci.flatMap fD)++(aQ gi.length++gi.flatMap fD)
end Rc
theorem p9:∀{l:List FI} {is:List Nat},l.map (fun f=>(f.pred,f.args))=is.map be→l.flatMap Rc.fE=is.flatMap Rc.fD
 | [],[],_=>rfl
 | [],_::_,h=>by simp at h
 | _::_,[],h=>by simp at h
 | f::l,i::is,h=>by
  simp only[List.map_cons,List.cons.injEq]at h
  have e1:f.pred=(be i).1:=congrArg Prod.fst h.1
  have e2:f.args=(be i).2:=congrArg Prod.snd h.1
  rw[List.flatMap_cons,List.flatMap_cons,p9 h.2]
  unfold Rc.fE Rc.fD
  rw[e1,e2]
theorem rz{cm gone:List FI}{ci gi:List Nat}(h1:fM cm ci)(h2:fM gone gi):Rc.eY cm gone=Rc.u5 ci gi:=by
 unfold Rc.eY Rc.kp Rc.u5
 rw[p9 h1.1,p9 h2.1,h1.len,h2.len]
def qb(K:Nat→Int)(w w':World)(sb eg:Nat)(ct:ByteArray):Prop:=∀hd lg lv,eG w eg hd lg lv→∃qk,eG w' eg (dO K hd ct) (lg++Rc.bA (Rc.aC ct++dO K hd ct)) qk∧Kb (sb::eg::lv.ownBlock.toList) w w'∧cw w lv qk
theorem qb.below{K:Nat→Int}{w wr w':World}{sb eg:Nat}{ct:ByteArray}(h:qb K w wr sb eg ct)(hb:Below wr.heap.size wr w'):qb K w w' sb eg ct:=by
 intro hd lg lv hH
 obtain⟨qk,h1,h2,h3⟩:=h hd lg lv hH
 exact⟨qk,h1.below hb,h2.below hb,h3⟩
theorem qb.of_next{K:Nat→Int}{w W w':World}{sb eg:Nat}{ct:ByteArray}(hb:Below w.heap.size w W)(h:wD K W w' eg ct):qb K w w' sb eg ct:=by
 intro hd lg lv hH
 obtain⟨qk,h1,h2,h3⟩:=h hd lg lv (hH.below hb)
 exact⟨qk,h1,(Kb.bF hb _).trans (h2.mono (fun i hi _=>List.mem_cons_of_mem _ hi)),h3.mono hb.size⟩
theorem eG.off{w w':World}{eg:Nat}{hd:List UInt8}{lg:List Value}{lv:Value}(h:eG w eg hd lg lv){x:Nat}(hk:Kb [x] w w'){Z:Array Value}{t:TypeId}{f:Nat×Nat}(hx:w.heap[x]?=some (.cells Z t f))(h1:109≠t)(h2:5≠t):eG w' eg hd lg lv:=by
 obtain⟨pl,rv,gm,hm,e⟩:=h.at_
 refine⟨⟨pl,rv,gm,hm,hk.heap e (by simpa using fg e hx h1)⟩,h.Jw,hk.dQ h.log (fun b cur fz hb e2=> ?_)⟩
 simp only[List.mem_cons,List.not_mem_nil,or_false]at hb
 subst hb
 rw[hx]at e2
 simp at e2
 exact h2 e2.2.1.symm
theorem qb.set{K:Nat→Int}{w wr:World}{sb eg:Nat}{ct:ByteArray}(h:qb K w wr sb eg ct){Z:Array Value}{f:Nat×Nat}(hx:wr.heap[sb]?=some (.cells Z 43 f))(o:Nat)(v:Value):qb K w (wr.setCell ⟨sb,o,none⟩ v) sb eg ct:=by
 intro hd lg lv hH
 obtain⟨qk,h1,h2,h3⟩:=h hd lg lv hH
 have hk:Kb [sb] wr (wr.setCell ⟨sb,o,none⟩ v):=Kb.setCell wr ⟨sb,o,none⟩ v
 exact⟨qk,h1.off hk hx (by decide) (by decide),h2.trans (hk.mono (fun i hi _=>by simp at hi;simp[hi])),h3⟩
def IK(w W:World):Prop:=∀(b:Nat) (cur:Array Value) (fz:Nat×Nat),w.heap[b]?=some (.cells cur 3 fz)→W.heap[b]?=some (.cells cur 3 fz)
theorem IK.refl(w:World):IK w w:=fun _ _ _ h=>h
theorem IK.trans{a b c:World}(h:IK a b)(k:IK b c):IK a c:=fun x cur fz e=>k x cur fz (h x cur fz e)
theorem IK.bF{w W:World}(h:Below w.heap.size w W):IK w W:=fun b cur fz e=>by rw[h.block _ (lt_of_heap e)];exact e
theorem IK.Ug{w W:World}(h:p5 w W):IK w W:=fun b cur fz e=>h.heap e (iE (by decide) (by decide))
theorem IK.set{w:World}{x:Nat}{Z:Array Value}{t:TypeId}{f:Nat×Nat}(hx:w.heap[x]?=some (.cells Z t f))(ht:3≠t)(o:Nat)(v:Value):IK w (w.setCell ⟨x,o,none⟩ v):=fun b cur fz e=>(Kb.setCell w ⟨x,o,none⟩ v).heap e (by simpa using fg e hx ht)
theorem lM.mono{w:World}{B eg:Nat}{kl:List Ax.ay}{gv:Nat→Bool}{n f g:Nat}(h:lM w B eg kl gv n f)(hg:g≤f):lM w B eg kl gv n g:=fun S W hk hS=>h S W hk (fun b hb=>by
 obtain⟨cur,t,fz,e,ht⟩:=hS b hb
 exact⟨cur,t,fz,e,ht.imp id (fun ⟨a,b⟩=>⟨a,Nat.lt_of_lt_of_le b hg⟩)⟩)
theorem lM.below{w w':World}{B eg:Nat}{kl:List Ax.ay}{gv:Nat→Bool}{n f:Nat}(h:lM w B eg kl gv n f)(hb:Below w.heap.size w w'){x:Nat}{Z:Array Value}(hs:w.heap[x]?=some (.cells Z 43 (0,0)))(hf:f≤w.heap.size):lM w' B eg kl gv n f:=by
 intro S W hk hS
 refine h (S.filter (fun b=>decide (b<w.heap.size))) W ?_ ?_
 · exact((Kb.bF hb S).trans hk).mono (fun i hi aE=>List.mem_filter.2 ⟨hi,decide_eq_true aE⟩)
 · intro b cM
   rw[List.mem_filter]at cM
   have aE:b<w.heap.size:=of_decide_eq_true cM.2
   obtain⟨cur,t,fz,e,ht⟩:=hS b cM.1
   rw[hb.block b aE]at e
   exact⟨cur,t,fz,e,ht⟩
theorem lM.off{w w':World}{B eg:Nat}{kl:List Ax.ay}{gv:Nat→Bool}{n f:Nat}(h:lM w B eg kl gv n f){x:Nat}(hk:Kb [x] w w'){Z:Array Value}{g:Nat×Nat}(hx:w.heap[x]?=some (.cells Z 43 g))(hs:w'.heap.size=w.heap.size):lM w' B eg kl gv n f:=by
 intro S W lN hS
 refine h (x::S) W ?_ ?_
 · exact(hk.mono (fun i hi _=>by simp at hi;simp[hi])).trans (lN.mono (fun i hi _=>List.mem_cons_of_mem _ hi))
 · intro b hb
   rcases List.mem_cons.1 hb with rfl | hb
   · exact⟨_,_,_,hx,.inl rfl⟩
   · by_cases nA:b=x
     · subst nA
       exact⟨_,_,_,hx,.inl rfl⟩
     · obtain⟨cur,t,fz,e,ht⟩:=hS b hb
       have aE:=lt_of_heap e
       rw[hk.block b (by omega) (by simpa using nA)]at e
       exact⟨cur,t,fz,e,ht⟩
structure ru(K:Nat→Int)(ct:ByteArray)(B:Nat)(w wr:World)(sb eg:Nat)(rv:Value)(kl:List Ax.ay)(gs ge:Nat→Bool)(n:Nat)(sc:Array Value):Prop where
 sh:s8 B wr sb eg rv kl gs ge n
 aZ:Below B w wr
 box:wr.heap[w.heap.size]?=some (.cells sc 33 (0,0))
 ik:IK w wr
 hx:qb K w wr sb eg ct
 ep:lM wr B eg kl ge n w.heap.size
theorem ru.set{K:Nat→Int}{ct:ByteArray}{B:Nat}{w wr:World}{sb eg:Nat}{rv:Value}{kl:List Ax.ay}{gs ge:Nat→Bool}{n:Nat}{sc:Array Value}(h:ru K ct B w wr sb eg rv kl gs ge n sc)(i:Nat)(b:Bool):ru K ct B w (wr.setCell ⟨sb,2+i,none⟩ (.bool b)) sb eg rv kl (gA gs i b) ge n sc:=by
 obtain⟨h1,h2⟩:=h.sh.set i b
 have hs:=h.sh.lQ
 unfold fw at hs
 have cA:w.heap.size≠sb:=fg h.box hs (by decide)
 refine⟨h1,h.aZ.trans h2, ?_,h.ik.trans (IK.set hs (by decide) _ _),h.hx.set hs _ _,h.ep.off (Kb.setCell wr ⟨sb,2+i,none⟩ (.bool b)) hs (by simp)⟩
 exact(Kb.setCell wr ⟨sb,2+i,none⟩ (.bool b)).heap h.box (by simpa using cA)
theorem ru.drew{K:Nat→Int}{ct:ByteArray}{B:Nat}{w wr:World}{sb eg:Nat}{rv:Value}{kl:List Ax.ay}{gs ge:Nat→Bool}{n:Nat}{sc:Array Value}(h:ru K ct B w wr sb eg rv kl gs ge n sc)(hB:B≤wr.heap.size):ru K ct B w wr.drew sb eg rv kl gs ge n sc:=by
 have hb:Below wr.heap.size wr wr.drew:=(Below.refl _ _).drew
 exact⟨h.sh.below hb,h.aZ.drew,h.box,h.ik,h.hx.below hb,h.ep.below hb h.sh.lQ (Nat.le_of_lt (lt_of_heap h.box))⟩
theorem ru.Cr{K:Nat→Int}{ct:ByteArray}{B:Nat}{w wr:World}{sb eg:Nat}{rv:Value}{kl:List Ax.ay}{gs ge:Nat→Bool}{n:Nat}{x y:Value}(h:ru K ct B w wr sb eg rv kl gs ge n #[x,y]):wr.cell? ⟨sb,0,none⟩=some (.pointer (some ⟨eg,0,none⟩))∧wr.cell? ⟨w.heap.size,0,none⟩=some x∧wr.cell? ⟨w.heap.size,1,none⟩=some y:=
 ⟨h.sh.lQ.cells.1,by rw[cell_of_row _ _ _ _ _ _ h.box];rfl,by rw[cell_of_row _ _ _ _ _ _ h.box];rfl⟩
theorem zN(K:Nat→Int)(B:Nat)(w:World)(sb eg:Nat)(rv:Value)(kl:List Ax.ay)(gv:Nat→Bool)(n:Nat)(h:s8 B w sb eg rv kl gv gv n)(hn:n≤2000000)(hK:∀W,Below B w W→Dg.uw W K∧eW W)
 (a1:Option Addr)(n1 c1:Nat)(C:List Int)(hC:∀W,Below B w W→IK w W→fT W a1 n1 c1 C)(hC0:∀g o,a1=some ⟨g,o,none⟩→0<C.length→g≠sb)(a2:Option Addr)(n2 c2:Nat)(G:List Int)(hG:∀W,Below B w W→IK w W→fT W a2 n2 c2 G)(hG0:∀g o,a2=some ⟨g,o,none⟩→0<G.length→g≠sb):
 Calls Tryz.prog 15 #[.pointer (some ⟨sb,0,none⟩),.agg #[.slice a1 n1 c1,.slice a2 n2 c2]] w fun e w'=>e=.returned (.bool true)∧s8 B w' sb eg rv kl (ax (ax gv (idxs C) true) (idxs G) false) (ax (ax gv (idxs C) true) (idxs G) false) (n+1)∧Below B w w'∧IK w w'∧qb K w w' sb eg ⟨(Rc.u5 (idxs C) (idxs G)).toArray⟩∧lM w' B eg kl (ax (ax gv (idxs C) true) (idxs G) false) (n+1) w.heap.size:=by
 have ajH:=(h.cell (i:=0) (by omega)).2.2
 have hBs:B≤w.heap.size:=by have:=h.le;omega
 have adB:=(hC w (Below.refl _ _) (IK.refl w)).len
 have acZ:=(hG w (Below.refl _ _) (IK.refl w)).len
 subst adB
 subst acZ
 have SN:=(hC w (Below.refl _ _) (IK.refl w)).cap
 have Sk:=(hG w (Below.refl _ _) (IK.refl w)).cap
 have ahF:c1≤9223372036854775807:=(hC w (Below.refl _ _) (IK.refl w)).max
 have akO:c2≤9223372036854775807:=(hG w (Below.refl _ _) (IK.refl w)).max
 obtain⟨ct,LJ⟩:∃ct:ByteArray,ct=⟨(Rc.u5 (idxs C) (idxs G)).toArray⟩:=⟨_,rfl⟩
 have R8:Hid (ct=⟨(Rc.u5 (idxs C) (idxs G)).toArray⟩):=LJ
 obtain⟨w1,sL⟩:∃w1,w1=w.alloc (.cells #[.slice a1 C.length c1,.slice a2 G.length c2] 33):=⟨_,rfl⟩
 have a8:Below w.heap.size w w1:=by rw[sL];exact(Below.refl _ _).alloc (Nat.le_refl _) _
 have nA:w1.heap[w.heap.size]?=some (.cells #[.slice a1 C.length c1,.slice a2 G.length c2] 33 (0,0)):=by rw[sL];exact heap_alloc_new w _
 have UX:=lt_of_heap nA
 have FM:∀W,Below w1.heap.size w1 W→Below B w W:=fun W hW=>(a8.mono hBs).trans (hW.mono (by have:=a8.size;omega))
 have yR:Hid (∀W,Below w1.heap.size w1 W→W.cell? ⟨sb,0,none⟩=some (.pointer (some ⟨eg,0,none⟩))∧W.cell? ⟨w.heap.size,0,none⟩=some (.slice a1 C.length c1)∧W.cell? ⟨w.heap.size,1,none⟩=some (.slice a2 G.length c2)):=by
  intro W hW
  have h9:W.heap[w.heap.size]?=some (.cells #[.slice a1 C.length c1,.slice a2 G.length c2] 33 (0,0)):=by rw[hW.block _ UX];exact nA
  exact⟨((h.lQ.below a8).below hW).cells.1,by rw[cell_of_row _ _ _ _ _ _ h9];rfl,by rw[cell_of_row _ _ _ _ _ _ h9];rfl⟩
 have HIK:Hid (∀W,Below w1.heap.size w1 W→IK w W):=fun W hW=>IK.bF (a8.trans (hW.mono a8.size))
 have yT:Hid (∀a m c L W,(∀W',Below B w W'→IK w W'→fT W' a m c L)→Below w1.heap.size w1 W→Calls Tryz.prog 39 #[.slice a m c] W fun e w'=>∃fd fc l,e=.returned (.slice fd (List.length l) fc)∧L0 L fd fc l w'∧Below W.heap.size W w'∧Below w1.heap.size w1 w'):=by
  intro a m c L W hL hW
  refine(Gw W a m c L (hL W (FM W hW) (HIK.out W hW))).mono ?_
  rintro e w' ⟨v,l,rfl,hF⟩
  obtain⟨fd,fc,rfl,hf⟩:=TN hF
  exact⟨fd,fc,l,rfl,hf,hF.aZ,hW.trans (hF.aZ.mono hW.size)⟩
 have IG:Hid (∀W vP vK l1 Td SA l2,Below w1.heap.size w1 W→L0 C vP vK l1 W→L0 G Td SA l2 W→Calls Tryz.prog 38 #[.pointer (some ⟨eg,0,none⟩),.slice vP (List.length l1) vK,.slice Td (List.length l2) SA] W fun e w'=>e=.returned (.int .i64 0)∧ru K ct B w w' sb eg rv kl gv (ax (ax gv (idxs C) true) (idxs G) false) (n+1) #[.slice a1 C.length c1,.slice a2 G.length c2]):=by
  intro W vP vK l1 Td SA l2 hW h1 h2
  have LO:=FM W hW
  have hS:=(h.below a8).below hW
  refine(D9 K W B eg kl gv n hS.Kr hn (hK W LO).1 (hK W LO).2 vP vK l1 Td SA l2 h1.CC h2.CC _ _ h1.idx h2.idx h1.len h2.len).mono ?_
  rintro e w' ⟨rfl,q1,q2,q3,q4,q5⟩
  rw[rz h1.idx h2.idx,←R8.out]at q4
  refine⟨rfl,⟨hS.lQ.TW q2,q1,hS.le⟩,LO.trans q3, ?_,(HIK.out W hW).trans (IK.Ug q2),qb.of_next (a8.trans (hW.mono a8.size)) q4,q5.mono (Nat.le_trans a8.size hW.size)⟩
  exact q2.heap (by rw[hW.block _ UX];exact nA) (iE (by decide) (by decide))
 have HC:Hid (∀W,Below B w W→IK w W→fT W a1 C.length c1 C):=hC
 have HG:Hid (∀W,Below B w W→IK w W→fT W a2 G.length c2 G):=hG
 have Sg:Hid (∀g o,a1=some ⟨g,o,none⟩→0<C.length→g≠sb):=hC0
 have HG0:Hid (∀g o,a2=some ⟨g,o,none⟩→0<G.length→g≠sb):=hG0
 have hle:=h.le
 have T5:Below w1.heap.size w1 w1:=Below.refl _ _
 generalize yh:ax (ax gv (idxs C) true) (idxs G) false=ge at IG ⊢
 have HGE:Hid (ax (ax gv (idxs C) true) (idxs G) false=ge):=yh
 clear h hK hC hG hC0 hG0 nA a8 FM yh HIK LJ
 go_enter Tryz.func15,Tryz.ntmps15
 go_upto_region 1 with fail
 rw[←sL]
 clear sL
 go_cut [5]from 8 (fun v5 wx=>v5=.int .i64 0∧Hid (ru K ct B w wx sb eg rv kl gv ge (n+1) #[.slice a1 C.length c1,.slice a2 G.length c2]))
 case first=>
  go_region_held3 (fun W=>W.cell? ⟨sb,0,none⟩=some (.pointer (some ⟨eg,0,none⟩))∧W.cell? ⟨w.heap.size,0,none⟩=some (.slice a1 C.length c1)∧W.cell? ⟨w.heap.size,1,none⟩=some (.slice a2 G.length c2)) (first | (exact yR.out _ (by assumption)) | (exact yR.out _ (Below.drew (by assumption))) | (exact ru.Cr (by assumption))) (first | (go_at_call 39;refine(yT.out _ _ _ _ _ (by first | exact HC.out | exact HG.out) (by first | assumption | exact Below.drew (by assumption))).mono ?_;rintro e wn ⟨fd,fc,lf,rfl,hF,hBn,ah1⟩) | (go_at_call 38;refine(IG.out _ _ _ _ _ _ _ (by assumption) (by first | assumption | exact L0.below (by assumption) (by assumption)) (by first | assumption | exact L0.below (by assumption) (by assumption))).mono ?_;rintro e wn ⟨rfl,hAw⟩))
  all_goals
   (go_wp2_with fail
    go_meet
    exact⟨rfl,by assumption⟩)
 case rest=>
  obtain⟨ZE,hcw⟩:=hcut
  subst ZE
  have HE0:Hid (ru K ct B w wc sb eg rv kl (ax gv ((idxs C).take 0) true) ge (n+1) #[.slice a1 C.length c1,.slice a2 G.length c2]):=hcw.out
  clear hcw yR yT IG T5 UX
  go_wp2_with fail
  go_loopw [6] (fun i wr=>∃(k:Nat),k≤C.length∧k≤30∧i=.int .i64 k∧ru K ct B w wr sb eg rv kl (ax gv ((idxs C).take k) true) ge (n+1) #[.slice a1 C.length c1,.slice a2 G.length c2]) (fun i _=>30-(intOf i).toNat)
  case atStart=>exact⟨0,Nat.zero_le _,by omega,rfl,HE0.out⟩
  case round=>
   obtain⟨k,hk,TC,rfl,hA⟩:=hrel
   obtain⟨y0,y1,y2⟩:=hA.Cr
   have QY:=lt_of_heap hA.box
   have HA:Hid (ru K ct B w wr sb eg rv kl (ax gv ((idxs C).take k) true) ge (n+1) #[.slice a1 C.length c1,.slice a2 G.length c2]):=hA
   clear HE0
   by_cases aE:k<C.length
   · have LI:decide ((k:Int)<(C.length:Int))=true:=decide_eq_true (by omega)
     by_cases PJ:k<30
     · have Mo:decide ((k:Int)<30)=true:=decide_eq_true (by omega)
       obtain⟨g,o,rfl,ca,kD⟩:=(HC.out wr hA.aZ hA.ik).at_ k aE
       have Nq:g≠sb:=Sg.out g o rfl (by omega)
       have Ze:sb≠g:=fun e=>Nq e.symm
       have Xz:w.heap.size≠sb:=by omega
       have Xy:sb≠w.heap.size:=by omega
       have Pf:Ax.bk C[k] 36<36:=Ax.eB _ _ (by decide)
       obtain⟨l1,l2,l3⟩:=hA.sh.cell Pf
       have IV:B≤wr.heap.size:=by have:=hA.aZ.size;omega
       have HX:Hid (ru K ct B w (wr.drew.setCell ⟨sb,2+Ax.bk C[k] 36,none⟩ (.bool true)) sb eg rv kl (ax gv ((idxs C).take (k+1)) true) ge (n+1) #[.slice (some ⟨g,o,none⟩) C.length c1,.slice a2 G.length c2]):=by
        rw[sX aE PJ,ic]
        exact(hA.drew IV).set _ _
       have JQ:=fun W=>oW C[k] 36 W kD (by decide) (by decide)
       generalize ax gv ((idxs C).take k) true (Ax.bk C[k] 36)=ob at l1
       clear hA kD HA
       generalize Ax.bk C[k] 36=R at*
       generalize C[k]=cv at*
       have Zq:(0:Int)≤(R:Int):=by omega
       have hRi:(R:Int)<36:=by omega
       go_wp2_with fail
       go_region_held3 (fun W=>W.cell? ⟨w.heap.size,0,none⟩=some (.slice (some ⟨g,o,none⟩) C.length c1)∧W.cell? ⟨g,o+k,none⟩=some (.int .i64 cv)) (go_keep) ((go_at_call 27;refine(JQ _).mono ?_;rintro e w' ⟨rfl,hw⟩;subst hw))
       all_goals
        (go_wp2_with fail
         go_roundw
         case rel=>exact⟨k+1,aE,PJ,by go_num,HX.out⟩
         case measure=>(simp[intOf];omega))
     · have Mo:decide ((k:Int)<30)=false:=decide_eq_false (by omega)
       have Jj:Hid (ru K ct B w wr sb eg rv kl (ax gv (idxs C) true) ge (n+1) #[.slice a1 C.length c1,.slice a2 G.length c2]):=by
        have h9:=HA.out
        rw[l6 (by omega)]at h9
        exact h9
       clear hA HA
       go_wp2_with fail
       have X3:Hid (ru K ct B w wr sb eg rv kl (ax (ax gv (idxs C) true) ((idxs G).take 0) false) ge (n+1) #[.slice a1 C.length c1,.slice a2 G.length c2]):=Jj.out
       clear Jj y0 y1 y2 QY
       go_loopw [7] (fun i wr=>∃(k:Nat),k≤G.length∧k≤30∧i=.int .i64 k∧ru K ct B w wr sb eg rv kl (ax (ax gv (idxs C) true) ((idxs G).take k) false) ge (n+1) #[.slice a1 C.length c1,.slice a2 G.length c2]) (fun i _=>30-(intOf i).toNat)
       case atStart=>exact⟨0,Nat.zero_le _,by omega,rfl,X3.out⟩
       case round=>
        obtain⟨k,hk,TC,rfl,hA⟩:=hrel
        obtain⟨y0,y1,y2⟩:=hA.Cr
        have QY:=lt_of_heap hA.box
        have HA:Hid (ru K ct B w wr sb eg rv kl (ax (ax gv (idxs C) true) ((idxs G).take k) false) ge (n+1) #[.slice a1 C.length c1,.slice a2 G.length c2]):=hA
        clear X3
        by_cases aE:k<G.length
        · have LI:decide ((k:Int)<(G.length:Int))=true:=decide_eq_true (by omega)
          by_cases PJ:k<30
          · have Mo:decide ((k:Int)<30)=true:=decide_eq_true (by omega)
            obtain⟨g,o,rfl,ca,kD⟩:=(HG.out wr hA.aZ hA.ik).at_ k aE
            have Nq:g≠sb:=HG0.out g o rfl (by omega)
            have Ze:sb≠g:=fun e=>Nq e.symm
            have Xz:w.heap.size≠sb:=by omega
            have Xy:sb≠w.heap.size:=by omega
            have Pf:Ax.bk G[k] 36<36:=Ax.eB _ _ (by decide)
            obtain⟨l1,l2,l3⟩:=hA.sh.cell Pf
            have IV:B≤wr.heap.size:=by have:=hA.aZ.size;omega
            have HX:Hid (ru K ct B w (wr.drew.setCell ⟨sb,2+Ax.bk G[k] 36,none⟩ (.bool false)) sb eg rv kl (ax (ax gv (idxs C) true) ((idxs G).take (k+1)) false) ge (n+1) #[.slice a1 C.length c1,.slice (some ⟨g,o,none⟩) G.length c2]):=by
             rw[sX aE PJ,ic]
             exact(hA.drew IV).set _ _
            have JQ:=fun W=>oW G[k] 36 W kD (by decide) (by decide)
            generalize ax (ax gv (idxs C) true) ((idxs G).take k) false (Ax.bk G[k] 36)=ob at l1
            clear hA kD HA
            generalize Ax.bk G[k] 36=R at*
            generalize G[k]=cv at*
            have Zq:(0:Int)≤(R:Int):=by omega
            have hRi:(R:Int)<36:=by omega
            go_wp2_with fail
            go_region_held3 (fun W=>W.cell? ⟨w.heap.size,1,none⟩=some (.slice (some ⟨g,o,none⟩) G.length c2)∧W.cell? ⟨g,o+k,none⟩=some (.int .i64 cv)) (go_keep) ((go_at_call 27;refine(JQ _).mono ?_;rintro e w' ⟨rfl,hw⟩;subst hw))
            all_goals
             (go_wp2_with fail
              go_roundw
              case rel=>exact⟨k+1,aE,PJ,by go_num,HX.out⟩
              case measure=>(simp[intOf];omega))
          · have Mo:decide ((k:Int)<30)=false:=decide_eq_false (by omega)
            have Jj:Hid (ru K ct B w wr sb eg rv kl (ax (ax gv (idxs C) true) (idxs G) false) ge (n+1) #[.slice a1 C.length c1,.slice a2 G.length c2]):=by
             have h9:=HA.out
             rw[l6 (by omega)]at h9
             exact h9
            clear hA HA
            go_wp2_with fail
            go_ret
            refine⟨rfl, ?_⟩
            have h9:=Jj.out
            rw[HGE.out]at h9
            rw[←R8.out]
            exact⟨h9.sh,h9.aZ,h9.ik,h9.hx,h9.ep⟩
        · have LI:decide ((k:Int)<(G.length:Int))=false:=decide_eq_false (by omega)
          have Jj:Hid (ru K ct B w wr sb eg rv kl (ax (ax gv (idxs C) true) (idxs G) false) ge (n+1) #[.slice a1 C.length c1,.slice a2 G.length c2]):=by
           have h9:=HA.out
           rw[l6 (by omega)]at h9
           exact h9
          clear hA HA
          go_wp2_with fail
          go_ret
          refine⟨rfl, ?_⟩
          have h9:=Jj.out
          rw[HGE.out]at h9
          rw[←R8.out]
          exact⟨h9.sh,h9.aZ,h9.ik,h9.hx,h9.ep⟩
   · have LI:decide ((k:Int)<(C.length:Int))=false:=decide_eq_false (by omega)
     have Jj:Hid (ru K ct B w wr sb eg rv kl (ax gv (idxs C) true) ge (n+1) #[.slice a1 C.length c1,.slice a2 G.length c2]):=by
      have h9:=HA.out
      rw[l6 (by omega)]at h9
      exact h9
     clear hA HA
     go_wp2_with fail
     have X3:Hid (ru K ct B w wr sb eg rv kl (ax (ax gv (idxs C) true) ((idxs G).take 0) false) ge (n+1) #[.slice a1 C.length c1,.slice a2 G.length c2]):=Jj.out
     clear Jj y0 y1 y2 QY
     go_loopw [7] (fun i wr=>∃(k:Nat),k≤G.length∧k≤30∧i=.int .i64 k∧ru K ct B w wr sb eg rv kl (ax (ax gv (idxs C) true) ((idxs G).take k) false) ge (n+1) #[.slice a1 C.length c1,.slice a2 G.length c2]) (fun i _=>30-(intOf i).toNat)
     case atStart=>exact⟨0,Nat.zero_le _,by omega,rfl,X3.out⟩
     case round=>
      obtain⟨k,hk,TC,rfl,hA⟩:=hrel
      obtain⟨y0,y1,y2⟩:=hA.Cr
      have QY:=lt_of_heap hA.box
      have HA:Hid (ru K ct B w wr sb eg rv kl (ax (ax gv (idxs C) true) ((idxs G).take k) false) ge (n+1) #[.slice a1 C.length c1,.slice a2 G.length c2]):=hA
      clear X3
      by_cases aE:k<G.length
      · have LI:decide ((k:Int)<(G.length:Int))=true:=decide_eq_true (by omega)
        by_cases PJ:k<30
        · have Mo:decide ((k:Int)<30)=true:=decide_eq_true (by omega)
          obtain⟨g,o,rfl,ca,kD⟩:=(HG.out wr hA.aZ hA.ik).at_ k aE
          have Nq:g≠sb:=HG0.out g o rfl (by omega)
          have Ze:sb≠g:=fun e=>Nq e.symm
          have Xz:w.heap.size≠sb:=by omega
          have Xy:sb≠w.heap.size:=by omega
          have Pf:Ax.bk G[k] 36<36:=Ax.eB _ _ (by decide)
          obtain⟨l1,l2,l3⟩:=hA.sh.cell Pf
          have IV:B≤wr.heap.size:=by have:=hA.aZ.size;omega
          have HX:Hid (ru K ct B w (wr.drew.setCell ⟨sb,2+Ax.bk G[k] 36,none⟩ (.bool false)) sb eg rv kl (ax (ax gv (idxs C) true) ((idxs G).take (k+1)) false) ge (n+1) #[.slice a1 C.length c1,.slice (some ⟨g,o,none⟩) G.length c2]):=by
           rw[sX aE PJ,ic]
           exact(hA.drew IV).set _ _
          have JQ:=fun W=>oW G[k] 36 W kD (by decide) (by decide)
          generalize ax (ax gv (idxs C) true) ((idxs G).take k) false (Ax.bk G[k] 36)=ob at l1
          clear hA kD HA
          generalize Ax.bk G[k] 36=R at*
          generalize G[k]=cv at*
          have Zq:(0:Int)≤(R:Int):=by omega
          have hRi:(R:Int)<36:=by omega
          go_wp2_with fail
          go_region_held3 (fun W=>W.cell? ⟨w.heap.size,1,none⟩=some (.slice (some ⟨g,o,none⟩) G.length c2)∧W.cell? ⟨g,o+k,none⟩=some (.int .i64 cv)) (go_keep) ((go_at_call 27;refine(JQ _).mono ?_;rintro e w' ⟨rfl,hw⟩;subst hw))
          all_goals
           (go_wp2_with fail
            go_roundw
            case rel=>exact⟨k+1,aE,PJ,by go_num,HX.out⟩
            case measure=>(simp[intOf];omega))
        · have Mo:decide ((k:Int)<30)=false:=decide_eq_false (by omega)
          have Jj:Hid (ru K ct B w wr sb eg rv kl (ax (ax gv (idxs C) true) (idxs G) false) ge (n+1) #[.slice a1 C.length c1,.slice a2 G.length c2]):=by
           have h9:=HA.out
           rw[l6 (by omega)]at h9
           exact h9
          clear hA HA
          go_wp2_with fail
          go_ret
          refine⟨rfl, ?_⟩
          have h9:=Jj.out
          rw[HGE.out]at h9
          rw[←R8.out]
          exact⟨h9.sh,h9.aZ,h9.ik,h9.hx,h9.ep⟩
      · have LI:decide ((k:Int)<(G.length:Int))=false:=decide_eq_false (by omega)
        have Jj:Hid (ru K ct B w wr sb eg rv kl (ax (ax gv (idxs C) true) (idxs G) false) ge (n+1) #[.slice a1 C.length c1,.slice a2 G.length c2]):=by
         have h9:=HA.out
         rw[l6 (by omega)]at h9
         exact h9
        clear hA HA
        go_wp2_with fail
        go_ret
        refine⟨rfl, ?_⟩
        have h9:=Jj.out
        rw[HGE.out]at h9
        rw[←R8.out]
        exact⟨h9.sh,h9.aZ,h9.ik,h9.hx,h9.ep⟩
theorem JP(K:Nat→Int)(B:Nat)(w:World)(sb eg:Nat)(rv:Value)(kl:List Ax.ay)(gv:Nat→Bool)(n:Nat)(h:s8 B w sb eg rv kl gv gv n)(hn:n≤2000000)(hK:∀W,Below B w W→Dg.uw W K∧eW W)
 (a1:Option Addr)(n1 c1:Nat)(C:List Int)(hC:∀W,Below B w W→IK w W→fT W a1 n1 c1 C)(hC0:∀g o,a1=some ⟨g,o,none⟩→0<C.length→g≠sb)(a2:Option Addr)(n2 c2:Nat)(G:List Int)(hG:∀W,Below B w W→IK w W→fT W a2 n2 c2 G)(hG0:∀g o,a2=some ⟨g,o,none⟩→0<G.length→g≠sb):
 Calls Tryz.prog 15 #[.pointer (some ⟨sb,0,none⟩),.agg #[.slice a1 n1 c1,.slice a2 n2 c2]] w fun e w'=>e=.returned (.bool true)∧s8 B w' sb eg rv kl (ax (ax gv (idxs C) true) (idxs G) false) (ax (ax gv (idxs C) true) (idxs G) false) (n+1)∧Below B w w'∧IK w w'∧qb K w w' sb eg ⟨(Rc.u5 (idxs C) (idxs G)).toArray⟩:=
 (zN K B w sb eg rv kl gv n h hn hK a1 n1 c1 C hC hC0 a2 n2 c2 G hG hG0).mono (fun _ _ ⟨h1,h2,h3,h4,h5,_⟩=>⟨h1,h2,h3,h4,h5⟩)
end
/- axiomkeep.shop. -/
section
open Go.RowKit Go.Maps
theorem nQ.lower{w:World}{B B' eg:Nat}{kl:List Ax.ay}{gv:Nat→Bool}{n:Nat}(h:nQ w B eg kl gv n)(hB:B'≤B):nQ w B' eg kl gv n:=by
 obtain⟨pl,rd,rc,l,gm,G,hm,T,s,hd,lv,ln,lx,eb,dN,he,hG,hR,hH,hI,hT,bS,nT,yS,EF⟩:=h.at_
 exact⟨⟨pl,rd,rc,l,gm,G,hm,T,s,hd,lv,ln,lx,eb,dN,he,hG,hR,hH,hI,hT,bS,aG nT hB,yS,EF⟩,Nat.le_trans hB h.ge⟩
theorem Iz{B:Nat}{w:World}{eg:Nat}{kl:List Ax.ay}(rv:Value)(h:nQ w B eg kl (fun _=>false) 0)(hB:B≤w.heap.size):s8 B (w.alloc (.cells (o9 eg rv (fun _=>false)) 43)) w.heap.size eg rv kl (fun _=>false) (fun _=>false) 0:=
 ⟨heap_alloc_new _ _,h.below ((Below.refl _ _).alloc (Nat.le_refl _) _),hB⟩
theorem LW(K:Nat→Int)(w:World)(ad:Option Addr)(m c:Nat)(kl:List Ax.ay)(hR:qY w ad m c kl)(hK:Dg.uw w K):
 Calls Tryz.prog 13 #[.slice ad m c] w fun e w'=>∃sb eg,e=.returned (.pointer (some ⟨sb,0,none⟩))∧s8 w.heap.size w' sb eg (.slice ad (min m 6) c) kl (fun _=>false) (fun _=>false) 0∧Below w.heap.size w w':=by
 have qf:Hid (Calls Tryz.prog 35 #[.slice ad m c] w fun e w'=>e=.returned (.string (Ax.au kl))∧Hid (Below w.heap.size w w')):=(Po w ad m c kl hR (Ax.au kl) (Gt kl)).mono (fun e w' ⟨a,b,_⟩=>⟨a,b⟩)
 have V0:Hid (∀W,Below w.heap.size w W→Calls Tryz.prog 34 #[.string (Ax.au kl)] W fun e w'=>∃eg,e=.returned (.tuple #[.pointer (some ⟨eg,0,none⟩),.int .i64 0,.int .i64 0])∧Hid (nQ w' W.heap.size eg kl (fun _=>false) 0∧Below W.heap.size W w')):=fun W hW=>(R5 kl K W (hK.below hW)).mono (fun e w' ⟨eg,a,b⟩=>⟨eg,a,b⟩)
 have hmc:=hR.cap
 have Ci:c≤9223372036854775807:=hR.max
 have HAD:Hid (6<m→∃g o,ad=some ⟨g,o,none⟩):=fun h6=>by
  obtain⟨g,o,e,_⟩:=hR.at_ 0 (by rw[hR.len];omega)
  exact⟨g,o,e⟩
 clear hR hK
 by_cases h6:6<m
 · obtain⟨g,o,rfl⟩:=HAD.out h6
   have hd6:decide ((6:Int)<(m:Int))=true:=decide_eq_true (by omega)
   rw[Nat.min_eq_right (by omega)]
   clear HAD
   go_enter Tryz.func13,Tryz.ntmps13
   go_wp2_with (first | (go_at_call 35;refine qf.out.mono ?_;rintro e w1 ⟨rfl,mK⟩) | (go_at_call 34;refine(V0.out _ mK.out).mono ?_;rintro e w2 ⟨eg,rfl,HN⟩))
   have cM:Below w.heap.size w w2:=mK.out.trans (HN.out.2.mono mK.out.size)
   go_ret
   refine⟨w2.heap.size,eg,rfl, ?_,cM.alloc cM.size _⟩
   have hE:nQ w2 w.heap.size eg kl (fun _=>false) 0:=HN.out.1.lower mK.out.size
   exact Iz (.slice (some ⟨g,o,none⟩) 6 c) hE cM.size
 · have hd6:decide ((6:Int)<(m:Int))=false:=decide_eq_false (by omega)
   rw[Nat.min_eq_left (by omega)]
   clear HAD
   go_enter Tryz.func13,Tryz.ntmps13
   go_wp2_with (first | (go_at_call 35;refine qf.out.mono ?_;rintro e w1 ⟨rfl,mK⟩) | (go_at_call 34;refine(V0.out _ mK.out).mono ?_;rintro e w2 ⟨eg,rfl,HN⟩))
   have cM:Below w.heap.size w w2:=mK.out.trans (HN.out.2.mono mK.out.size)
   go_ret
   refine⟨w2.heap.size,eg,rfl, ?_,cM.alloc cM.size _⟩
   have hE:nQ w2 w.heap.size eg kl (fun _=>false) 0:=HN.out.1.lower mK.out.size
   exact Iz (.slice ad m c) hE cM.size
end
/- axiomkeep.Least, walked. -/
section
open Go.RowKit Go.Maps
structure yo(w:World)(ad:Option Addr)(n c:Nat)(l:List (List Int×List Int)):Prop where
 len:l.length=n
 cap:n≤c
 max:c≤maxLen
 at_:∀k (h:k<l.length),∃g o,ad=some ⟨g,o,none⟩∧∃a1 n1 c1 a2 n2 c2,w.cell? ⟨g,o+k*2,none⟩=some (.slice a1 n1 c1)∧w.cell? ⟨g,o+k*2+1,none⟩=some (.slice a2 n2 c2)∧fT w a1 n1 c1 (l[k]).1∧fT w a2 n2 c2 (l[k]).2
theorem fT.lt{w:World}{ad:Option Addr}{n c:Nat}{l:List Int}(h:fT w ad n c l):∀g o,ad=some ⟨g,o,none⟩→0<l.length→g<w.heap.size:=by
 intro g o e hl
 obtain⟨g',o',e',ca,_⟩:=h.at_ 0 hl
 rw[e]at e'
 simp only[Option.some.injEq,Addr.mk.injEq,and_true]at e'
 obtain⟨rfl,rfl⟩:=e'
 exact block_lt_of_cell ca
def ir(gv:Nat→Bool)(x:List Int×List Int):Nat→Bool:=ax (ax gv (idxs x.1) true) (idxs x.2) false
def jl(l:List (List Int×List Int)):Nat→Bool:=l.foldl ir (fun _=>false)
theorem Fx(l:List (List Int×List Int))(x:List Int×List Int):jl (l++[x])=ir (jl l) x:=by simp[jl]
theorem JM{gv:Nat→Bool}(h:ji gv)(x:List Int×List Int):ji (ir gv x):=ji.gX _ (ji.gX _ h (ng _)) (ng _)
theorem pj:∀(l:List (List Int×List Int)) {gv:Nat→Bool},ji gv→ji (l.foldl ir gv)
 | [],_,h=>h
 | x::l,_,h=>pj l (JM h x)
theorem N2(l:List (List Int×List Int)):ji (jl l):=pj l (fun _ _=>rfl)
end
end Go.Proofs.YtdmicblafmhflaaGreatDoor

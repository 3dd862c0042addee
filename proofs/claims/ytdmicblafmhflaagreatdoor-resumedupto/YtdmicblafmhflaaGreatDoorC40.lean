/- axiomkeep.Shop.apply, walked. -/
import Derived.Test.YtdmicblafmhflaaGreatDoorC39
set_option linter.unusedSimpArgs false
set_option linter.unusedVariables false
set_option maxHeartbeats 4000000
set_option maxRecDepth 100000
namespace Go.Proofs.YtdmicblafmhflaaGreatDoor
section
open Go.RowKit Go.Maps
namespace Rc
def fD(i:Nat):List UInt8:=aS (bk i).1++(bk i).2.flatMap aS
def Lo(ci gi:List Nat):List UInt8:=(aZ ci.length++ci.flatMap fD)++(aZ gi.length++gi.flatMap fD)
end Rc
theorem qF:∀{l:List FI} {is:List Nat},l.map (fun f=>(f.pred,f.args))=is.map bk→l.flatMap Rc.fE=is.flatMap Rc.fD
 | [],[],_=>rfl
 | [],_::_,h=>by simp at h
 | _::_,[],h=>by simp at h
 | f::l,i::is,h=>by
  simp only[List.map_cons,List.cons.injEq]at h
  have e1:f.pred=(bk i).1:=congrArg Prod.fst h.1
  have e2:f.args=(bk i).2:=congrArg Prod.snd h.1
  rw[List.flatMap_cons,List.flatMap_cons,qF h.2]
  unfold Rc.fE Rc.fD
  rw[e1,e2]
theorem BZ{dX gone:List FI}{ci gi:List Nat}(h1:mq dX ci)(h2:mq gone gi):Rc.fL dX gone=Rc.Lo ci gi:=by
 unfold Rc.fL Rc.kF Rc.Lo
 rw[qF h1.1,qF h2.1,h1.len,h2.len]
def pE(K:Nat→Int)(w w':World)(sb eg:Nat)(ct:ByteArray):Prop:=∀hd lg lv,iy w eg hd lg lv→∃vk,iy w' eg (iA K hd ct) (lg++Rc.bP (Rc.aS ct++iA K hd ct)) vk∧Kb (sb::eg::lv.ownBlock.toList) w w'∧cr w lv vk
theorem pE.below{K:Nat→Int}{w wr w':World}{sb eg:Nat}{ct:ByteArray}(h:pE K w wr sb eg ct)(hb:Below wr.heap.size wr w'):pE K w w' sb eg ct:=by
 intro hd lg lv hH
 obtain⟨vk,h1,h2,h3⟩:=h hd lg lv hH
 exact⟨vk,h1.below hb,h2.below hb,h3⟩
theorem pE.of_next{K:Nat→Int}{w W w':World}{sb eg:Nat}{ct:ByteArray}(hb:Below w.heap.size w W)(h:AY K W w' eg ct):pE K w w' sb eg ct:=by
 intro hd lg lv hH
 obtain⟨vk,h1,h2,h3⟩:=h hd lg lv (hH.below hb)
 exact⟨vk,h1,(Kb.bM hb _).trans (h2.mono (fun i hi _=>List.mem_cons_of_mem _ hi)),h3.mono hb.size⟩
theorem iy.off{w w':World}{eg:Nat}{hd:List UInt8}{lg:List Value}{lv:Value}(h:iy w eg hd lg lv){x:Nat}(hk:Kb [x] w w'){Z:Array Value}{t:TypeId}{f:Nat×Nat}(hx:w.heap[x]?=some (.cells Z t f))(h1:109≠t)(h2:5≠t):iy w' eg hd lg lv:=by
 obtain⟨pl,rv,gm,hm,e⟩:=h.at_
 refine⟨⟨pl,rv,gm,hm,hk.heap e (by simpa using fV e hx h1)⟩,h.Si,hk.fC h.log (fun b cur fz hb e2=> ?_)⟩
 simp only[List.mem_cons,List.not_mem_nil,or_false]at hb
 subst hb
 rw[hx]at e2
 simp at e2
 exact h2 e2.2.1.symm
theorem pE.set{K:Nat→Int}{w wr:World}{sb eg:Nat}{ct:ByteArray}(h:pE K w wr sb eg ct){Z:Array Value}{f:Nat×Nat}(hx:wr.heap[sb]?=some (.cells Z 43 f))(o:Nat)(v:Value):pE K w (wr.setCell ⟨sb,o,none⟩ v) sb eg ct:=by
 intro hd lg lv hH
 obtain⟨vk,h1,h2,h3⟩:=h hd lg lv hH
 have hk:Kb [sb] wr (wr.setCell ⟨sb,o,none⟩ v):=Kb.setCell wr ⟨sb,o,none⟩ v
 exact⟨vk,h1.off hk hx (by decide) (by decide),h2.trans (hk.mono (fun i hi _=>by simp at hi;simp[hi])),h3⟩
def IK(w W:World):Prop:=∀(b:Nat) (cur:Array Value) (fz:Nat×Nat),w.heap[b]?=some (.cells cur 3 fz)→W.heap[b]?=some (.cells cur 3 fz)
theorem IK.refl(w:World):IK w w:=fun _ _ _ h=>h
theorem IK.trans{a b c:World}(h:IK a b)(k:IK b c):IK a c:=fun x cur fz e=>k x cur fz (h x cur fz e)
theorem IK.bM{w W:World}(h:Below w.heap.size w W):IK w W:=fun b cur fz e=>by rw[h.block _ (lt_of_heap e)];exact e
theorem IK.Vo{w W:World}(h:qx w W):IK w W:=fun b cur fz e=>h.heap e (iX (by decide) (by decide))
theorem IK.set{w:World}{x:Nat}{Z:Array Value}{t:TypeId}{f:Nat×Nat}(hx:w.heap[x]?=some (.cells Z t f))(ht:3≠t)(o:Nat)(v:Value):IK w (w.setCell ⟨x,o,none⟩ v):=fun b cur fz e=>(Kb.setCell w ⟨x,o,none⟩ v).heap e (by simpa using fV e hx ht)
theorem pF.mono{w:World}{B eg:Nat}{kl:List Ax.aA}{gv:Nat→Bool}{n f g:Nat}(h:pF w B eg kl gv n f)(hg:g≤f):pF w B eg kl gv n g:=fun S W hk hS=>h S W hk (fun b hb=>by
 obtain⟨cur,t,fz,e,ht⟩:=hS b hb
 exact⟨cur,t,fz,e,ht.imp id (fun ⟨a,b⟩=>⟨a,Nat.lt_of_lt_of_le b hg⟩)⟩)
theorem pF.below{w w':World}{B eg:Nat}{kl:List Ax.aA}{gv:Nat→Bool}{n f:Nat}(h:pF w B eg kl gv n f)(hb:Below w.heap.size w w'){x:Nat}{Z:Array Value}(hs:w.heap[x]?=some (.cells Z 43 (0,0)))(hf:f≤w.heap.size):pF w' B eg kl gv n f:=by
 intro S W hk hS
 refine h (S.filter (fun b=>decide (b<w.heap.size))) W ?_ ?_
 · exact((Kb.bM hb S).trans hk).mono (fun i hi aG=>List.mem_filter.2 ⟨hi,decide_eq_true aG⟩)
 · intro b cw
   rw[List.mem_filter]at cw
   have aG:b<w.heap.size:=of_decide_eq_true cw.2
   obtain⟨cur,t,fz,e,ht⟩:=hS b cw.1
   rw[hb.block b aG]at e
   exact⟨cur,t,fz,e,ht⟩
theorem pF.off{w w':World}{B eg:Nat}{kl:List Ax.aA}{gv:Nat→Bool}{n f:Nat}(h:pF w B eg kl gv n f){x:Nat}(hk:Kb [x] w w'){Z:Array Value}{g:Nat×Nat}(hx:w.heap[x]?=some (.cells Z 43 g))(hs:w'.heap.size=w.heap.size):pF w' B eg kl gv n f:=by
 intro S W mA hS
 refine h (x::S) W ?_ ?_
 · exact(hk.mono (fun i hi _=>by simp at hi;simp[hi])).trans (mA.mono (fun i hi _=>List.mem_cons_of_mem _ hi))
 · intro b hb
   rcases List.mem_cons.1 hb with rfl | hb
   · exact⟨_,_,_,hx,.inl rfl⟩
   · by_cases lC:b=x
     · subst lC
       exact⟨_,_,_,hx,.inl rfl⟩
     · obtain⟨cur,t,fz,e,ht⟩:=hS b hb
       have aG:=lt_of_heap e
       rw[hk.block b (by omega) (by simpa using lC)]at e
       exact⟨cur,t,fz,e,ht⟩
structure sq(K:Nat→Int)(ct:ByteArray)(B:Nat)(w wr:World)(sb eg:Nat)(rv:Value)(kl:List Ax.aA)(gs ge:Nat→Bool)(n:Nat)(sc:Array Value):Prop where
 sh:ph B wr sb eg rv kl gs ge n
 aQ:Below B w wr
 box:wr.heap[w.heap.size]?=some (.cells sc 33 (0,0))
 ik:IK w wr
 hx:pE K w wr sb eg ct
 ep:pF wr B eg kl ge n w.heap.size
theorem sq.set{K:Nat→Int}{ct:ByteArray}{B:Nat}{w wr:World}{sb eg:Nat}{rv:Value}{kl:List Ax.aA}{gs ge:Nat→Bool}{n:Nat}{sc:Array Value}(h:sq K ct B w wr sb eg rv kl gs ge n sc)(i:Nat)(b:Bool):sq K ct B w (wr.setCell ⟨sb,2+i,none⟩ (.bool b)) sb eg rv kl (fm gs i b) ge n sc:=by
 obtain⟨h1,h2⟩:=h.sh.set i b
 have hs:=h.sh.lP
 unfold dv at hs
 have cE:w.heap.size≠sb:=fV h.box hs (by decide)
 refine⟨h1,h.aQ.trans h2, ?_,h.ik.trans (IK.set hs (by decide) _ _),h.hx.set hs _ _,h.ep.off (Kb.setCell wr ⟨sb,2+i,none⟩ (.bool b)) hs (by simp)⟩
 exact(Kb.setCell wr ⟨sb,2+i,none⟩ (.bool b)).heap h.box (by simpa using cE)
theorem sq.drew{K:Nat→Int}{ct:ByteArray}{B:Nat}{w wr:World}{sb eg:Nat}{rv:Value}{kl:List Ax.aA}{gs ge:Nat→Bool}{n:Nat}{sc:Array Value}(h:sq K ct B w wr sb eg rv kl gs ge n sc)(hB:B≤wr.heap.size):sq K ct B w wr.drew sb eg rv kl gs ge n sc:=by
 have hb:Below wr.heap.size wr wr.drew:=(Below.refl _ _).drew
 exact⟨h.sh.below hb,h.aQ.drew,h.box,h.ik,h.hx.below hb,h.ep.below hb h.sh.lP (Nat.le_of_lt (lt_of_heap h.box))⟩
theorem sq.BL{K:Nat→Int}{ct:ByteArray}{B:Nat}{w wr:World}{sb eg:Nat}{rv:Value}{kl:List Ax.aA}{gs ge:Nat→Bool}{n:Nat}{x y:Value}(h:sq K ct B w wr sb eg rv kl gs ge n #[x,y]):wr.cell? ⟨sb,0,none⟩=some (.pointer (some ⟨eg,0,none⟩))∧wr.cell? ⟨w.heap.size,0,none⟩=some x∧wr.cell? ⟨w.heap.size,1,none⟩=some y:=
 ⟨h.sh.lP.cells.1,by rw[cell_of_row _ _ _ _ _ _ h.box];rfl,by rw[cell_of_row _ _ _ _ _ _ h.box];rfl⟩
theorem JN(K:Nat→Int)(B:Nat)(w:World)(sb eg:Nat)(rv:Value)(kl:List Ax.aA)(gv:Nat→Bool)(n:Nat)(h:ph B w sb eg rv kl gv gv n)(hn:n≤2000000)(hK:∀W,Below B w W→Dg.AR W K∧eM W)
 (a1:Option Addr)(n1 c1:Nat)(C:List Int)(hC:∀W,Below B w W→IK w W→fI W a1 n1 c1 C)(Ss:∀g o,a1=some ⟨g,o,none⟩→0<C.length→g≠sb)(a2:Option Addr)(n2 c2:Nat)(G:List Int)(hG:∀W,Below B w W→IK w W→fI W a2 n2 c2 G)(VQ:∀g o,a2=some ⟨g,o,none⟩→0<G.length→g≠sb):
 Calls Tryz.prog 15 #[.pointer (some ⟨sb,0,none⟩),.agg #[.slice a1 n1 c1,.slice a2 n2 c2]] w fun e w'=>e=.returned (.bool true)∧ph B w' sb eg rv kl (aB (aB gv (idxs C) true) (idxs G) false) (aB (aB gv (idxs C) true) (idxs G) false) (n+1)∧Below B w w'∧IK w w'∧pE K w w' sb eg ⟨(Rc.Lo (idxs C) (idxs G)).toArray⟩∧pF w' B eg kl (aB (aB gv (idxs C) true) (idxs G) false) (n+1) w.heap.size:=by
 have VD:=(h.cell (i:=0) (by omega)).2.2
 have hBs:B≤w.heap.size:=by have:=h.le;omega
 have ac7:=(hC w (Below.refl _ _) (IK.refl w)).len
 have adE:=(hG w (Below.refl _ _) (IK.refl w)).len
 subst ac7
 subst adE
 have St:=(hC w (Below.refl _ _) (IK.refl w)).cap
 have R6:=(hG w (Below.refl _ _) (IK.refl w)).cap
 have akO:c1≤9223372036854775807:=(hC w (Below.refl _ _) (IK.refl w)).max
 have aj0:c2≤9223372036854775807:=(hG w (Below.refl _ _) (IK.refl w)).max
 obtain⟨ct,Pn⟩:∃ct:ByteArray,ct=⟨(Rc.Lo (idxs C) (idxs G)).toArray⟩:=⟨_,rfl⟩
 have RN:Hid (ct=⟨(Rc.Lo (idxs C) (idxs G)).toArray⟩):=Pn
 obtain⟨w1,qa⟩:∃w1,w1=w.alloc (.cells #[.slice a1 C.length c1,.slice a2 G.length c2] 33):=⟨_,rfl⟩
 have bq:Below w.heap.size w w1:=by rw[qa];exact(Below.refl _ _).alloc (Nat.le_refl _) _
 have lC:w1.heap[w.heap.size]?=some (.cells #[.slice a1 C.length c1,.slice a2 G.length c2] 33 (0,0)):=by rw[qa];exact heap_alloc_new w _
 have Vl:=lt_of_heap lC
 have Gc:∀W,Below w1.heap.size w1 W→Below B w W:=fun W hW=>(bq.mono hBs).trans (hW.mono (by have:=bq.size;omega))
 have lA:Hid (∀W,Below w1.heap.size w1 W→W.cell? ⟨sb,0,none⟩=some (.pointer (some ⟨eg,0,none⟩))∧W.cell? ⟨w.heap.size,0,none⟩=some (.slice a1 C.length c1)∧W.cell? ⟨w.heap.size,1,none⟩=some (.slice a2 G.length c2)):=by
  intro W hW
  have h9:W.heap[w.heap.size]?=some (.cells #[.slice a1 C.length c1,.slice a2 G.length c2] 33 (0,0)):=by rw[hW.block _ Vl];exact lC
  exact⟨((h.lP.below bq).below hW).cells.1,by rw[cell_of_row _ _ _ _ _ _ h9];rfl,by rw[cell_of_row _ _ _ _ _ _ h9];rfl⟩
 have HIK:Hid (∀W,Below w1.heap.size w1 W→IK w W):=fun W hW=>IK.bM (bq.trans (hW.mono bq.size))
 have Ey:Hid (∀a m c L W,(∀W',Below B w W'→IK w W'→fI W' a m c L)→Below w1.heap.size w1 W→Calls Tryz.prog 39 #[.slice a m c] W fun e w'=>∃fd fc l,e=.returned (.slice fd (List.length l) fc)∧Mn L fd fc l w'∧Below W.heap.size W w'∧Below w1.heap.size w1 w'):=by
  intro a m c L W hL hW
  refine(E7 W a m c L (hL W (Gc W hW) (HIK.out W hW))).mono ?_
  rintro e w' ⟨v,l,rfl,hF⟩
  obtain⟨fd,fc,rfl,hf⟩:=Vc hF
  exact⟨fd,fc,l,rfl,hf,hF.aQ,hW.trans (hF.aQ.mono hW.size)⟩
 have Ld:Hid (∀W vA vm l1 Sm RZ l2,Below w1.heap.size w1 W→Mn C vA vm l1 W→Mn G Sm RZ l2 W→Calls Tryz.prog 38 #[.pointer (some ⟨eg,0,none⟩),.slice vA (List.length l1) vm,.slice Sm (List.length l2) RZ] W fun e w'=>e=.returned (.int .i64 0)∧sq K ct B w w' sb eg rv kl gv (aB (aB gv (idxs C) true) (idxs G) false) (n+1) #[.slice a1 C.length c1,.slice a2 G.length c2]):=by
  intro W vA vm l1 Sm RZ l2 hW h1 h2
  have Lr:=Gc W hW
  have hS:=(h.below bq).below hW
  refine(Od K W B eg kl gv n hS.Hu hn (hK W Lr).1 (hK W Lr).2 vA vm l1 Sm RZ l2 h1.Ca h2.Ca _ _ h1.idx h2.idx h1.len h2.len).mono ?_
  rintro e w' ⟨rfl,q1,q2,q3,q4,q5⟩
  rw[BZ h1.idx h2.idx,←RN.out]at q4
  refine⟨rfl,⟨hS.lP.Un q2,q1,hS.le⟩,Lr.trans q3, ?_,(HIK.out W hW).trans (IK.Vo q2),pE.of_next (bq.trans (hW.mono bq.size)) q4,q5.mono (Nat.le_trans bq.size hW.size)⟩
  exact q2.heap (by rw[hW.block _ Vl];exact lC) (iX (by decide) (by decide))
 have HC:Hid (∀W,Below B w W→IK w W→fI W a1 C.length c1 C):=hC
 have HG:Hid (∀W,Below B w W→IK w W→fI W a2 G.length c2 G):=hG
 have R1:Hid (∀g o,a1=some ⟨g,o,none⟩→0<C.length→g≠sb):=Ss
 have HG0:Hid (∀g o,a2=some ⟨g,o,none⟩→0<G.length→g≠sb):=VQ
 have hle:=h.le
 have UF:Below w1.heap.size w1 w1:=Below.refl _ _
 generalize AM:aB (aB gv (idxs C) true) (idxs G) false=ge at Ld ⊢
 have Z8:Hid (aB (aB gv (idxs C) true) (idxs G) false=ge):=AM
 clear h hK hC hG Ss VQ lC bq Gc AM HIK Pn
 go_enter Tryz.func15,Tryz.ntmps15
 go_upto_region 1 with fail
 rw[←qa]
 clear qa
 go_cut [5]from 8 (fun v5 wx=>v5=.int .i64 0∧Hid (sq K ct B w wx sb eg rv kl gv ge (n+1) #[.slice a1 C.length c1,.slice a2 G.length c2]))
 case first=>
  go_region_held3 (fun W=>W.cell? ⟨sb,0,none⟩=some (.pointer (some ⟨eg,0,none⟩))∧W.cell? ⟨w.heap.size,0,none⟩=some (.slice a1 C.length c1)∧W.cell? ⟨w.heap.size,1,none⟩=some (.slice a2 G.length c2)) (first | (exact lA.out _ (by assumption)) | (exact lA.out _ (Below.drew (by assumption))) | (exact sq.BL (by assumption))) (first | (go_at_call 39;refine(Ey.out _ _ _ _ _ (by first | exact HC.out | exact HG.out) (by first | assumption | exact Below.drew (by assumption))).mono ?_;rintro e wn ⟨fd,fc,lf,rfl,hF,hBn,ahV⟩) | (go_at_call 38;refine(Ld.out _ _ _ _ _ _ _ (by assumption) (by first | assumption | exact Mn.below (by assumption) (by assumption)) (by first | assumption | exact Mn.below (by assumption) (by assumption))).mono ?_;rintro e wn ⟨rfl,hAw⟩))
  all_goals
   (go_wp2_with fail
    go_meet
    exact⟨rfl,by assumption⟩)
 case rest=>
  obtain⟨ZJ,hcw⟩:=hcut
  subst ZJ
  have HE0:Hid (sq K ct B w wc sb eg rv kl (aB gv ((idxs C).take 0) true) ge (n+1) #[.slice a1 C.length c1,.slice a2 G.length c2]):=hcw.out
  clear hcw lA Ey Ld UF Vl
  go_wp2_with fail
  go_loopw [6] (fun i wr=>∃(k:Nat),k≤C.length∧k≤30∧i=.int .i64 k∧sq K ct B w wr sb eg rv kl (aB gv ((idxs C).take k) true) ge (n+1) #[.slice a1 C.length c1,.slice a2 G.length c2]) (fun i _=>30-(intOf i).toNat)
  case atStart=>exact⟨0,Nat.zero_le _,by omega,rfl,HE0.out⟩
  case round=>
   obtain⟨k,hk,Te,rfl,hA⟩:=hrel
   obtain⟨y0,y1,y2⟩:=hA.BL
   have Ty:=lt_of_heap hA.box
   have HA:Hid (sq K ct B w wr sb eg rv kl (aB gv ((idxs C).take k) true) ge (n+1) #[.slice a1 C.length c1,.slice a2 G.length c2]):=hA
   clear HE0
   by_cases aG:k<C.length
   · have Ez:decide ((k:Int)<(C.length:Int))=true:=decide_eq_true (by omega)
     by_cases Pg:k<30
     · have Nh:decide ((k:Int)<30)=true:=decide_eq_true (by omega)
       obtain⟨g,o,rfl,ca,kg⟩:=(HC.out wr hA.aQ hA.ik).at_ k aG
       have MK:g≠sb:=R1.out g o rfl (by omega)
       have X2:sb≠g:=fun e=>MK e.symm
       have Wu:w.heap.size≠sb:=by omega
       have WT:sb≠w.heap.size:=by omega
       have IU:Ax.aT C[k] 36<36:=Ax.eJ _ _ (by decide)
       obtain⟨l1,l2,l3⟩:=hA.sh.cell IU
       have Hh:B≤wr.heap.size:=by have:=hA.aQ.size;omega
       have HX:Hid (sq K ct B w (wr.drew.setCell ⟨sb,2+Ax.aT C[k] 36,none⟩ (.bool true)) sb eg rv kl (aB gv ((idxs C).take (k+1)) true) ge (n+1) #[.slice (some ⟨g,o,none⟩) C.length c1,.slice a2 G.length c2]):=by
        rw[tu aG Pg,iD]
        exact(hA.drew Hh).set _ _
       have ED:=fun W=>mB C[k] 36 W kg (by decide) (by decide)
       generalize aB gv ((idxs C).take k) true (Ax.aT C[k] 36)=ob at l1
       clear hA kg HA
       generalize Ax.aT C[k] 36=R at*
       generalize C[k]=cv at*
       have Yf:(0:Int)≤(R:Int):=by omega
       have hRi:(R:Int)<36:=by omega
       go_wp2_with fail
       go_region_held3 (fun W=>W.cell? ⟨w.heap.size,0,none⟩=some (.slice (some ⟨g,o,none⟩) C.length c1)∧W.cell? ⟨g,o+k,none⟩=some (.int .i64 cv)) (go_keep) ((go_at_call 27;refine(ED _).mono ?_;rintro e w' ⟨rfl,hw⟩;subst hw))
       all_goals
        (go_wp2_with fail
         go_roundw
         case rel=>exact⟨k+1,aG,Pg,by go_num,HX.out⟩
         case measure=>(simp[intOf];omega))
     · have Nh:decide ((k:Int)<30)=false:=decide_eq_false (by omega)
       have Bz:Hid (sq K ct B w wr sb eg rv kl (aB gv (idxs C) true) ge (n+1) #[.slice a1 C.length c1,.slice a2 G.length c2]):=by
        have h9:=HA.out
        rw[l8 (by omega)]at h9
        exact h9
       clear hA HA
       go_wp2_with fail
       have Sg:Hid (sq K ct B w wr sb eg rv kl (aB (aB gv (idxs C) true) ((idxs G).take 0) false) ge (n+1) #[.slice a1 C.length c1,.slice a2 G.length c2]):=Bz.out
       clear Bz y0 y1 y2 Ty
       go_loopw [7] (fun i wr=>∃(k:Nat),k≤G.length∧k≤30∧i=.int .i64 k∧sq K ct B w wr sb eg rv kl (aB (aB gv (idxs C) true) ((idxs G).take k) false) ge (n+1) #[.slice a1 C.length c1,.slice a2 G.length c2]) (fun i _=>30-(intOf i).toNat)
       case atStart=>exact⟨0,Nat.zero_le _,by omega,rfl,Sg.out⟩
       case round=>
        obtain⟨k,hk,Te,rfl,hA⟩:=hrel
        obtain⟨y0,y1,y2⟩:=hA.BL
        have Ty:=lt_of_heap hA.box
        have HA:Hid (sq K ct B w wr sb eg rv kl (aB (aB gv (idxs C) true) ((idxs G).take k) false) ge (n+1) #[.slice a1 C.length c1,.slice a2 G.length c2]):=hA
        clear Sg
        by_cases aG:k<G.length
        · have Ez:decide ((k:Int)<(G.length:Int))=true:=decide_eq_true (by omega)
          by_cases Pg:k<30
          · have Nh:decide ((k:Int)<30)=true:=decide_eq_true (by omega)
            obtain⟨g,o,rfl,ca,kg⟩:=(HG.out wr hA.aQ hA.ik).at_ k aG
            have MK:g≠sb:=HG0.out g o rfl (by omega)
            have X2:sb≠g:=fun e=>MK e.symm
            have Wu:w.heap.size≠sb:=by omega
            have WT:sb≠w.heap.size:=by omega
            have IU:Ax.aT G[k] 36<36:=Ax.eJ _ _ (by decide)
            obtain⟨l1,l2,l3⟩:=hA.sh.cell IU
            have Hh:B≤wr.heap.size:=by have:=hA.aQ.size;omega
            have HX:Hid (sq K ct B w (wr.drew.setCell ⟨sb,2+Ax.aT G[k] 36,none⟩ (.bool false)) sb eg rv kl (aB (aB gv (idxs C) true) ((idxs G).take (k+1)) false) ge (n+1) #[.slice a1 C.length c1,.slice (some ⟨g,o,none⟩) G.length c2]):=by
             rw[tu aG Pg,iD]
             exact(hA.drew Hh).set _ _
            have ED:=fun W=>mB G[k] 36 W kg (by decide) (by decide)
            generalize aB (aB gv (idxs C) true) ((idxs G).take k) false (Ax.aT G[k] 36)=ob at l1
            clear hA kg HA
            generalize Ax.aT G[k] 36=R at*
            generalize G[k]=cv at*
            have Yf:(0:Int)≤(R:Int):=by omega
            have hRi:(R:Int)<36:=by omega
            go_wp2_with fail
            go_region_held3 (fun W=>W.cell? ⟨w.heap.size,1,none⟩=some (.slice (some ⟨g,o,none⟩) G.length c2)∧W.cell? ⟨g,o+k,none⟩=some (.int .i64 cv)) (go_keep) ((go_at_call 27;refine(ED _).mono ?_;rintro e w' ⟨rfl,hw⟩;subst hw))
            all_goals
             (go_wp2_with fail
              go_roundw
              case rel=>exact⟨k+1,aG,Pg,by go_num,HX.out⟩
              case measure=>(simp[intOf];omega))
          · have Nh:decide ((k:Int)<30)=false:=decide_eq_false (by omega)
            have Bz:Hid (sq K ct B w wr sb eg rv kl (aB (aB gv (idxs C) true) (idxs G) false) ge (n+1) #[.slice a1 C.length c1,.slice a2 G.length c2]):=by
             have h9:=HA.out
             rw[l8 (by omega)]at h9
             exact h9
            clear hA HA
            go_wp2_with fail
            go_ret
            refine⟨rfl, ?_⟩
            have h9:=Bz.out
            rw[Z8.out]at h9
            rw[←RN.out]
            exact⟨h9.sh,h9.aQ,h9.ik,h9.hx,h9.ep⟩
        · have Ez:decide ((k:Int)<(G.length:Int))=false:=decide_eq_false (by omega)
          have Bz:Hid (sq K ct B w wr sb eg rv kl (aB (aB gv (idxs C) true) (idxs G) false) ge (n+1) #[.slice a1 C.length c1,.slice a2 G.length c2]):=by
           have h9:=HA.out
           rw[l8 (by omega)]at h9
           exact h9
          clear hA HA
          go_wp2_with fail
          go_ret
          refine⟨rfl, ?_⟩
          have h9:=Bz.out
          rw[Z8.out]at h9
          rw[←RN.out]
          exact⟨h9.sh,h9.aQ,h9.ik,h9.hx,h9.ep⟩
   · have Ez:decide ((k:Int)<(C.length:Int))=false:=decide_eq_false (by omega)
     have Bz:Hid (sq K ct B w wr sb eg rv kl (aB gv (idxs C) true) ge (n+1) #[.slice a1 C.length c1,.slice a2 G.length c2]):=by
      have h9:=HA.out
      rw[l8 (by omega)]at h9
      exact h9
     clear hA HA
     go_wp2_with fail
     have Sg:Hid (sq K ct B w wr sb eg rv kl (aB (aB gv (idxs C) true) ((idxs G).take 0) false) ge (n+1) #[.slice a1 C.length c1,.slice a2 G.length c2]):=Bz.out
     clear Bz y0 y1 y2 Ty
     go_loopw [7] (fun i wr=>∃(k:Nat),k≤G.length∧k≤30∧i=.int .i64 k∧sq K ct B w wr sb eg rv kl (aB (aB gv (idxs C) true) ((idxs G).take k) false) ge (n+1) #[.slice a1 C.length c1,.slice a2 G.length c2]) (fun i _=>30-(intOf i).toNat)
     case atStart=>exact⟨0,Nat.zero_le _,by omega,rfl,Sg.out⟩
     case round=>
      obtain⟨k,hk,Te,rfl,hA⟩:=hrel
      obtain⟨y0,y1,y2⟩:=hA.BL
      have Ty:=lt_of_heap hA.box
      have HA:Hid (sq K ct B w wr sb eg rv kl (aB (aB gv (idxs C) true) ((idxs G).take k) false) ge (n+1) #[.slice a1 C.length c1,.slice a2 G.length c2]):=hA
      clear Sg
      by_cases aG:k<G.length
      · have Ez:decide ((k:Int)<(G.length:Int))=true:=decide_eq_true (by omega)
        by_cases Pg:k<30
        · have Nh:decide ((k:Int)<30)=true:=decide_eq_true (by omega)
          obtain⟨g,o,rfl,ca,kg⟩:=(HG.out wr hA.aQ hA.ik).at_ k aG
          have MK:g≠sb:=HG0.out g o rfl (by omega)
          have X2:sb≠g:=fun e=>MK e.symm
          have Wu:w.heap.size≠sb:=by omega
          have WT:sb≠w.heap.size:=by omega
          have IU:Ax.aT G[k] 36<36:=Ax.eJ _ _ (by decide)
          obtain⟨l1,l2,l3⟩:=hA.sh.cell IU
          have Hh:B≤wr.heap.size:=by have:=hA.aQ.size;omega
          have HX:Hid (sq K ct B w (wr.drew.setCell ⟨sb,2+Ax.aT G[k] 36,none⟩ (.bool false)) sb eg rv kl (aB (aB gv (idxs C) true) ((idxs G).take (k+1)) false) ge (n+1) #[.slice a1 C.length c1,.slice (some ⟨g,o,none⟩) G.length c2]):=by
           rw[tu aG Pg,iD]
           exact(hA.drew Hh).set _ _
          have ED:=fun W=>mB G[k] 36 W kg (by decide) (by decide)
          generalize aB (aB gv (idxs C) true) ((idxs G).take k) false (Ax.aT G[k] 36)=ob at l1
          clear hA kg HA
          generalize Ax.aT G[k] 36=R at*
          generalize G[k]=cv at*
          have Yf:(0:Int)≤(R:Int):=by omega
          have hRi:(R:Int)<36:=by omega
          go_wp2_with fail
          go_region_held3 (fun W=>W.cell? ⟨w.heap.size,1,none⟩=some (.slice (some ⟨g,o,none⟩) G.length c2)∧W.cell? ⟨g,o+k,none⟩=some (.int .i64 cv)) (go_keep) ((go_at_call 27;refine(ED _).mono ?_;rintro e w' ⟨rfl,hw⟩;subst hw))
          all_goals
           (go_wp2_with fail
            go_roundw
            case rel=>exact⟨k+1,aG,Pg,by go_num,HX.out⟩
            case measure=>(simp[intOf];omega))
        · have Nh:decide ((k:Int)<30)=false:=decide_eq_false (by omega)
          have Bz:Hid (sq K ct B w wr sb eg rv kl (aB (aB gv (idxs C) true) (idxs G) false) ge (n+1) #[.slice a1 C.length c1,.slice a2 G.length c2]):=by
           have h9:=HA.out
           rw[l8 (by omega)]at h9
           exact h9
          clear hA HA
          go_wp2_with fail
          go_ret
          refine⟨rfl, ?_⟩
          have h9:=Bz.out
          rw[Z8.out]at h9
          rw[←RN.out]
          exact⟨h9.sh,h9.aQ,h9.ik,h9.hx,h9.ep⟩
      · have Ez:decide ((k:Int)<(G.length:Int))=false:=decide_eq_false (by omega)
        have Bz:Hid (sq K ct B w wr sb eg rv kl (aB (aB gv (idxs C) true) (idxs G) false) ge (n+1) #[.slice a1 C.length c1,.slice a2 G.length c2]):=by
         have h9:=HA.out
         rw[l8 (by omega)]at h9
         exact h9
        clear hA HA
        go_wp2_with fail
        go_ret
        refine⟨rfl, ?_⟩
        have h9:=Bz.out
        rw[Z8.out]at h9
        rw[←RN.out]
        exact⟨h9.sh,h9.aQ,h9.ik,h9.hx,h9.ep⟩
theorem zv(K:Nat→Int)(B:Nat)(w:World)(sb eg:Nat)(rv:Value)(kl:List Ax.aA)(gv:Nat→Bool)(n:Nat)(h:ph B w sb eg rv kl gv gv n)(hn:n≤2000000)(hK:∀W,Below B w W→Dg.AR W K∧eM W)
 (a1:Option Addr)(n1 c1:Nat)(C:List Int)(hC:∀W,Below B w W→IK w W→fI W a1 n1 c1 C)(Ss:∀g o,a1=some ⟨g,o,none⟩→0<C.length→g≠sb)(a2:Option Addr)(n2 c2:Nat)(G:List Int)(hG:∀W,Below B w W→IK w W→fI W a2 n2 c2 G)(VQ:∀g o,a2=some ⟨g,o,none⟩→0<G.length→g≠sb):
 Calls Tryz.prog 15 #[.pointer (some ⟨sb,0,none⟩),.agg #[.slice a1 n1 c1,.slice a2 n2 c2]] w fun e w'=>e=.returned (.bool true)∧ph B w' sb eg rv kl (aB (aB gv (idxs C) true) (idxs G) false) (aB (aB gv (idxs C) true) (idxs G) false) (n+1)∧Below B w w'∧IK w w'∧pE K w w' sb eg ⟨(Rc.Lo (idxs C) (idxs G)).toArray⟩:=
 (JN K B w sb eg rv kl gv n h hn hK a1 n1 c1 C hC Ss a2 n2 c2 G hG VQ).mono (fun _ _ ⟨h1,h2,h3,h4,h5,_⟩=>⟨h1,h2,h3,h4,h5⟩)
theorem F7(K:Nat→Int)(B:Nat)(w:World)(sb eg:Nat)(rv:Value)(kl:List Ax.aA)(gv:Nat→Bool)(n:Nat)(h:ph B w sb eg rv kl gv gv n)(hn:n≤2000000)(hK:∀W,Below B w W→Dg.AR W K∧eM W)
 (a1:Option Addr)(n1 c1:Nat)(C:List Int)(hC:∀W,Below B w W→IK w W→fI W a1 n1 c1 C)(Ss:∀g o,a1=some ⟨g,o,none⟩→0<C.length→g≠sb)(a2:Option Addr)(n2 c2:Nat)(G:List Int)(hG:∀W,Below B w W→IK w W→fI W a2 n2 c2 G)(VQ:∀g o,a2=some ⟨g,o,none⟩→0<G.length→g≠sb):
 Calls Tryz.prog 15 #[.pointer (some ⟨sb,0,none⟩),.agg #[.slice a1 n1 c1,.slice a2 n2 c2]] w fun e w'=>e=.returned (.bool true)∧ph B w' sb eg rv kl (aB (aB gv (idxs C) true) (idxs G) false) (aB (aB gv (idxs C) true) (idxs G) false) (n+1)∧Below B w w'∧IK w w':=
 (zv K B w sb eg rv kl gv n h hn hK a1 n1 c1 C hC Ss a2 n2 c2 G hG VQ).mono (fun _ _ ⟨h1,h2,h3,h4,_⟩=>⟨h1,h2,h3,h4⟩)
end
/- axiomkeep.shop. -/
section
open Go.RowKit Go.Maps
theorem eF.Zx{w:World}{ad:Option Addr}{m c:Nat}{l:List Ax.aA}(h:eF w ad m c l):eF w ad (min m 6) c (l.take 6):=by
 refine⟨?_, ?_,h.max, ?_⟩
 · rw[List.length_take,h.len];omega
 · have:=h.cap;omega
 · intro k hk
   rw[List.length_take]at hk
   obtain⟨g,o,e,hr⟩:=h.at_ k (by omega)
   exact⟨g,o,e,by rw[List.getElem_take];exact hr⟩
theorem nG.lower{w:World}{B B' eg:Nat}{kl:List Ax.aA}{gv:Nat→Bool}{n:Nat}(h:nG w B eg kl gv n)(hB:B'≤B):nG w B' eg kl gv n:=by
 obtain⟨pl,rd,rc,l,gm,G,hm,T,s,hd,lv,ln,lx,eb,dS,he,hG,hR,hH,hI,hT,cu,mz,xM,uX⟩:=h.at_
 exact⟨⟨pl,rd,rc,l,gm,G,hm,T,s,hd,lv,ln,lx,eb,dS,he,hG,hR,hH,hI,hT,cu,aE mz hB,xM,uX⟩,Nat.le_trans hB h.ge⟩
theorem IG{B:Nat}{w:World}{eg:Nat}{kl:List Ax.aA}(rv:Value)(h:nG w B eg kl (fun _=>false) 0)(hB:B≤w.heap.size):ph B (w.alloc (.cells (jh eg rv (fun _=>false)) 43)) w.heap.size eg rv kl (fun _=>false) (fun _=>false) 0:=
 ⟨heap_alloc_new _ _,h.below ((Below.refl _ _).alloc (Nat.le_refl _) _),hB⟩
theorem NM(K:Nat→Int)(w:World)(ad:Option Addr)(m c:Nat)(kl:List Ax.aA)(hR:eF w ad m c kl)(hK:Dg.AR w K):
 Calls Tryz.prog 13 #[.slice ad m c] w fun e w'=>∃sb eg,e=.returned (.pointer (some ⟨sb,0,none⟩))∧ph w.heap.size w' sb eg (.slice ad (min m 6) c) kl (fun _=>false) (fun _=>false) 0∧Below w.heap.size w w':=by
 have Cc:Hid (Calls Tryz.prog 35 #[.slice ad m c] w fun e w'=>e=.returned (.string (Ax.aC kl))∧Hid (Below w.heap.size w w')):=(Ny w ad m c kl hR (Ax.aC kl) (FC kl)).mono (fun e w' ⟨a,b,_⟩=>⟨a,b⟩)
 have V0:Hid (∀W,Below w.heap.size w W→Calls Tryz.prog 34 #[.string (Ax.aC kl)] W fun e w'=>∃eg,e=.returned (.tuple #[.pointer (some ⟨eg,0,none⟩),.int .i64 0,.int .i64 0])∧Hid (nG w' W.heap.size eg kl (fun _=>false) 0∧Below W.heap.size W w')):=fun W hW=>(PA kl K W (hK.below hW)).mono (fun e w' ⟨eg,a,b⟩=>⟨eg,a,b⟩)
 have hmc:=hR.cap
 have yG:c≤9223372036854775807:=hR.max
 have HAD:Hid (6<m→∃g o,ad=some ⟨g,o,none⟩):=fun h6=>by
  obtain⟨g,o,e,_⟩:=hR.at_ 0 (by rw[hR.len];omega)
  exact⟨g,o,e⟩
 clear hR hK
 by_cases h6:6<m
 · obtain⟨g,o,rfl⟩:=HAD.out h6
   have hd6:decide ((6:Int)<(m:Int))=true:=decide_eq_true (by omega)
   rw[Nat.min_eq_right (by omega)]
   clear HAD
   go_enter Tryz.func13,Tryz.ntmps13
   go_wp2_with (first | (go_at_call 35;refine Cc.out.mono ?_;rintro e w1 ⟨rfl,lh⟩) | (go_at_call 34;refine(V0.out _ lh.out).mono ?_;rintro e w2 ⟨eg,rfl,HN⟩))
   have cw:Below w.heap.size w w2:=lh.out.trans (HN.out.2.mono lh.out.size)
   go_ret
   refine⟨w2.heap.size,eg,rfl, ?_,cw.alloc cw.size _⟩
   have hE:nG w2 w.heap.size eg kl (fun _=>false) 0:=HN.out.1.lower lh.out.size
   exact IG (.slice (some ⟨g,o,none⟩) 6 c) hE cw.size
 · have hd6:decide ((6:Int)<(m:Int))=false:=decide_eq_false (by omega)
   rw[Nat.min_eq_left (by omega)]
   clear HAD
   go_enter Tryz.func13,Tryz.ntmps13
   go_wp2_with (first | (go_at_call 35;refine Cc.out.mono ?_;rintro e w1 ⟨rfl,lh⟩) | (go_at_call 34;refine(V0.out _ lh.out).mono ?_;rintro e w2 ⟨eg,rfl,HN⟩))
   have cw:Below w.heap.size w w2:=lh.out.trans (HN.out.2.mono lh.out.size)
   go_ret
   refine⟨w2.heap.size,eg,rfl, ?_,cw.alloc cw.size _⟩
   have hE:nG w2 w.heap.size eg kl (fun _=>false) 0:=HN.out.1.lower lh.out.size
   exact IG (.slice ad m c) hE cw.size
end
/- axiomkeep.Least, walked. -/
section
open Go.RowKit Go.Maps
structure vN(w:World)(ad:Option Addr)(n c:Nat)(l:List (List Int×List Int)):Prop where
 len:l.length=n
 cap:n≤c
 max:c≤maxLen
 at_:∀k (h:k<l.length),∃g o,ad=some ⟨g,o,none⟩∧∃a1 n1 c1 a2 n2 c2,w.cell? ⟨g,o+k*2,none⟩=some (.slice a1 n1 c1)∧w.cell? ⟨g,o+k*2+1,none⟩=some (.slice a2 n2 c2)∧fI w a1 n1 c1 (l[k]).1∧fI w a2 n2 c2 (l[k]).2
theorem fI.lt{w:World}{ad:Option Addr}{n c:Nat}{l:List Int}(h:fI w ad n c l):∀g o,ad=some ⟨g,o,none⟩→0<l.length→g<w.heap.size:=by
 intro g o e hl
 obtain⟨g',o',e',ca,_⟩:=h.at_ 0 hl
 rw[e]at e'
 simp only[Option.some.injEq,Addr.mk.injEq,and_true]at e'
 obtain⟨rfl,rfl⟩:=e'
 exact block_lt_of_cell ca
def ij(gv:Nat→Bool)(x:List Int×List Int):Nat→Bool:=aB (aB gv (idxs x.1) true) (idxs x.2) false
def jt(l:List (List Int×List Int)):Nat→Bool:=l.foldl ij (fun _=>false)
theorem Fj(l:List (List Int×List Int))(x:List Int×List Int):jt (l++[x])=ij (jt l) x:=by simp[jt]
theorem JM{gv:Nat→Bool}(h:fX gv)(x:List Int×List Int):fX (ij gv x):=fX.dh _ (fX.dh _ h (AZ _)) (AZ _)
theorem s4:∀(l:List (List Int×List Int)) {gv:Nat→Bool},fX gv→fX (l.foldl ij gv)
 | [],_,h=>h
 | x::l,_,h=>s4 l (JM h x)
theorem OQ(l:List (List Int×List Int)):fX (jt l):=s4 l (fun _ _=>rfl)
end
end Go.Proofs.YtdmicblafmhflaaGreatDoor

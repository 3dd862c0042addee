/- Engine.changed, its loops. -/
import Derived.Test.YtdmicblafmhflaaGreatDoorC34
set_option linter.unusedSimpArgs false
set_option linter.unusedVariables false
set_option maxHeartbeats 4000000
set_option maxRecDepth 100000
namespace Go.Proofs.YtdmicblafmhflaaGreatDoor
section
open Go.RowKit Go.Maps
theorem Fs(w:World)(eg gm hm:Nat)(G:List GT)(gv:Nat→Bool)(T:List HT)(s:En.cU En.bE)(uw:w.cell? ⟨eg,2,none⟩=some (.map (some gm)))(uP:w.cell? ⟨eg,3,none⟩=some (.map (some hm)))(hG:jY w gm G)(hR:jh G gv)(hH:p5 w hm T s)(hT:∀p,p∈T.map iR↔p∈oj)(hU:fw w)
 (cd:Option Addr)(cc:Nat)(dO:List FI)(gd:Option Addr)(gc:Nat)(gone:List FI)(PX:dN w cd cc dO)(PH:dN w gd gc gone)(ci gi:List Nat)(Uv:mM dO ci)(RH:mM gone gi)(vE:dO.length≤1000)(mh:gone.length≤1000):
 Calls Tryz.prog 68 #[.pointer (some ⟨eg,0,none⟩),.slice cd dO.length cc,.slice gd gone.length gc] w fun e w'=>∃gm',e=.returned (.tuple #[.map (some gm'),.bool true])∧yS w w' gm' (aq (aq gv ci true) gi false):=by
 have hG3:=hR.len hG.names
 have hGs:=hR.sum hG.names (fun t ht=>cl.ord (hG.bX t ht))
 have HCG:Hid (Calls Tryz.prog 126 #[.map (some gm)] w fun e w'=>e=.returned (.map (some w.heap.size))∧Hid (yS w w' w.heap.size gv)):=by
  refine(zn w gm G hG (fun t ht=>by have:=rL ht;omega) (by omega)).mono ?_
  rintro e w' ⟨N,rfl,hN⟩
  obtain⟨g1,g2⟩:=hN.toG hG.short hG.names (by omega)
  refine⟨rfl,⟨⟨N,g1,hR.perm g2, ?_⟩,hN.be⟩⟩
  intro b hb
  unfold ev at hb
  rw[List.mem_cons,List.mem_flatMap]at hb
  rcases hb with rfl | ⟨t,ht,hb⟩
  · exact Nat.le_refl _
  · have:=(hN.bX t ht).2 b hb
    omega
 have UK:Hid (∀wr gv' i av,yS w wr w.heap.size gv'→i<36→wr.ownsRow 0 9 1 av (cP i).2.length (strCells (cP i).2)→∃tg,ChR w wr eg w.heap.size gv' (cP i).1 av (cP i).2 i tg):=fun wr gv' i av h hi xq=>Ux uP hH hT hU h hi xq
 have HCF:Hid (dN w cd cc dO):=PX
 have HGF:Hid (dN w gd gc gone):=PH
 have HCI:Hid (mM dO ci):=Uv
 have HGI:Hid (mM gone gi):=RH
 have TN:=aZ PX.row
 have Tc:=aZ PH.row
 have Nz:=block_lt_of_cell uw
 clear hG hR hH hT hU PX PH Uv RH uP hG3 hGs
 go_enter Tryz.func68,Tryz.ntmps68
 go_wp2_with (go_at_call 126;refine HCG.out.mono ?_;rintro e w0 ⟨rfl,WB⟩)
 go_loopw [25] (fun i wr=>∃k:Nat,k≤dO.length∧i=.int .i64 k∧yS w wr w.heap.size (aq gv (ci.take k) true)) (fun i _=>dO.length-(intOf i).toNat)
 case atStart=>exact⟨0,Nat.zero_le _,rfl,WB.out⟩
 case round=>
  obtain⟨k,hk,rfl,hW⟩:=hrel
  have HW:Hid (yS w wr w.heap.size (aq gv (ci.take k) true)):=hW
  clear WB hW
  by_cases aC:k<dO.length
  · skip
    have bV:=(HCF.out.below HW.out.be).row
    obtain⟨g,rfl,hg,My,bA⟩:=ax bV (by omega)
    have c0:=bA _ _ (eK dO k aC).1
    have c1:=bA _ _ (eK dO k aC).2
    obtain⟨i,e1,hi,e2,e3⟩:=HCI.out.at_ aC
    have xq:wr.ownsRow 0 9 1 (dO[k]).av (cP i).2.length (strCells (cP i).2):=by
     have h9:=(HCF.out.below HW.out.be).each _ (List.getElem_mem aC)
     unfold FI.ok at h9
     rw[e3]at h9
     exact h9
    obtain⟨ad,ac,O5⟩:=ah xq
    obtain⟨tg,Yo⟩:=UK.out wr _ i _ HW.out hi xq
    rw[e2]at c0
    rw[O5]at c1 Yo
    obtain⟨hr,hl,W5,hle⟩:=Yo
    rw[DA]at hr W5 hle
    have LP:Hid _:=hr
    have WA:Hid _:=hl
    have Mm:Hid _:=W5
    have gG:Hid (aq gv (ci.take (k+1)) true=jR (aq gv (ci.take k) true) i true):=by
     rw[e1,iC]
     exact rfl
    clear hr hl W5 hle xq O5 bA bV e1 e2 e3 UK
    generalize Tb.eh (cP i).2 0=x0 at*
    generalize Tb.eh (cP i).2 1=x1 at*
    generalize Tb.eh (cP i).2 2=x2 at*
    generalize (cP i).2.length=nl at*
    generalize (cP i).1=p at*
    go_wp2_with (first | (go_at_call 41;refine(LP.out _ (by exact(Below.refl _ _).alloc (Nat.le_refl _) _)).mono ?_;rintro e w5 ⟨rfl,ls⟩;obtain⟨Xn,CT,TY⟩:=ua ls;have t5:w5.cell? ⟨wr.heap.size,0,none⟩=some (.string p):=(by rw[cell_of_row _ _ 0 _ _ _ Xn];rfl);have l5:=WA.out (w5.alloc (.cells #[.string x0,.string x1,.string x2] 119)) (CT.alloc CT.size _);have adG:wr.heap.size<w5.heap.size:=(by omega);have SG:Hid (Below wr.heap.size wr w5):=CT;clear ls Xn CT TY) | (go_at_call 127;refine(Mm.out _ (by exact SG.out.alloc SG.out.size _)).mono ?_;rintro e w7 ⟨rfl,Zw⟩;have HW7:Hid _:=Zw;clear Zw))
    go_roundw
    case rel=>exact⟨k+1,aC,by go_num,by rw[gG.out];exact HW7.out⟩
    case measure=>simp[intOf];omega
  · have MI:Hid (yS w wr w.heap.size (aq gv ci true)):=by
     have h9:=HW.out
     rw[List.take_of_length_le (by rw[HCI.out.len];omega)]at h9
     exact h9
    clear HW
    go_wp2_with fail
    go_loopw [46] (fun i wr=>∃k:Nat,k≤gone.length∧i=.int .i64 k∧yS w wr w.heap.size (aq (aq gv ci true) (gi.take k) false)) (fun i _=>gone.length-(intOf i).toNat)
    case atStart=>exact⟨0,Nat.zero_le _,rfl,MI.out⟩
    case round=>
     obtain⟨k,hk,rfl,hW⟩:=hrel
     have HW:Hid (yS w wr w.heap.size (aq (aq gv ci true) (gi.take k) false)):=hW
     clear MI hW
     by_cases aC:k<gone.length
     · skip
       have bV:=(HGF.out.below HW.out.be).row
       obtain⟨g,rfl,hg,My,bA⟩:=ax bV (by omega)
       have c0:=bA _ _ (eK gone k aC).1
       have c1:=bA _ _ (eK gone k aC).2
       obtain⟨i,e1,hi,e2,e3⟩:=HGI.out.at_ aC
       have xq:wr.ownsRow 0 9 1 (gone[k]).av (cP i).2.length (strCells (cP i).2):=by
        have h9:=(HGF.out.below HW.out.be).each _ (List.getElem_mem aC)
        unfold FI.ok at h9
        rw[e3]at h9
        exact h9
       obtain⟨ad,ac,O5⟩:=ah xq
       obtain⟨tg,Yo⟩:=UK.out wr _ i _ HW.out hi xq
       rw[e2]at c0
       rw[O5]at c1 Yo
       obtain⟨hr,hl,W5,hle⟩:=Yo
       rw[DA]at hr W5 hle
       have LP:Hid _:=hr
       have WA:Hid _:=hl
       have Mm:Hid _:=hle
       have gG:Hid (aq (aq gv ci true) (gi.take (k+1)) false=jR (aq (aq gv ci true) (gi.take k) false) i false):=by
        rw[e1,iC]
        exact rfl
       clear hr hl W5 hle xq O5 bA bV e1 e2 e3 UK
       generalize Tb.eh (cP i).2 0=x0 at*
       generalize Tb.eh (cP i).2 1=x1 at*
       generalize Tb.eh (cP i).2 2=x2 at*
       generalize (cP i).2.length=nl at*
       generalize (cP i).1=p at*
       go_wp2_with (first | (go_at_call 41;refine(LP.out _ (by exact(Below.refl _ _).alloc (Nat.le_refl _) _)).mono ?_;rintro e w5 ⟨rfl,ls⟩;obtain⟨Xn,CT,TY⟩:=ua ls;have t5:w5.cell? ⟨wr.heap.size,0,none⟩=some (.string p):=(by rw[cell_of_row _ _ 0 _ _ _ Xn];rfl);have l5:=WA.out (w5.alloc (.cells #[.string x0,.string x1,.string x2] 119)) (CT.alloc CT.size _);have adG:wr.heap.size<w5.heap.size:=(by omega);have SG:Hid (Below wr.heap.size wr w5):=CT;clear ls Xn CT TY) | (go_at_call 128;refine(Mm.out _ (by exact SG.out.alloc SG.out.size _)).mono ?_;rintro e w7 ⟨rfl,Zw⟩;have HW7:Hid _:=Zw;clear Zw))
       go_roundw
       case rel=>exact⟨k+1,aC,by go_num,by rw[gG.out];exact HW7.out⟩
       case measure=>simp[intOf];omega
     · have W6:Hid (yS w wr w.heap.size (aq (aq gv ci true) gi false)):=by
        have h9:=HW.out
        rw[List.take_of_length_le (by rw[HGI.out.len];omega)]at h9
        exact h9
       clear HW
       go_wp2_with fail
       go_ret2
       exact⟨_,rfl,W6.out⟩
end
/- Engine.Apply: what it keeps, how long its log grows. -/
section
open Go.RowKit Go.Maps
def U7(o:Obj):Prop:=∀c t f,o=.cells c t f→t≠109∧t≠5
structure qC(w w':World):Prop where
 kb:∃S,Kb S w w'∧∀b,b∈S→b<w.heap.size→∃cur t fz,w.heap[b]?=some (.cells cur t fz)∧(t=109∨t=5)
theorem qC.bG{w w':World}(h:Below w.heap.size w w'):qC w w':=⟨[],Kb.bG h [],by simp⟩
theorem qC.sB{w w':World}{x:Nat}(h:Kb [x] w w'){cur:Array Value}{fz:Nat×Nat}(hx:w.heap[x]?=some (.cells cur 109 fz)):qC w w':=⟨[x],h,fun b hb _=>by
 simp only[List.mem_cons,List.not_mem_nil,or_false]at hb
 subst hb
 exact⟨cur,_,fz,hx,.inl rfl⟩⟩
theorem qC.LF{w w':World}{B:Nat}(h:Lib.OthersKept 5 none w w')(hb:Below B w w'):qC w w':=by
 refine⟨(List.range w.heap.size).filter fun k=>match w.heap[k]? with | some (.cells _ t _)=>decide (t=5) | _=>false,⟨hb.os,hb.tape,hb.output,hb.size, ?_⟩, ?_⟩
 · intro k hk hn
   rw[Array.getElem?_eq_getElem hk]
   refine h k _ (Array.getElem?_eq_getElem hk) (by simp) ?_
   intro c fz e
   refine hn (List.mem_filter.2 ⟨List.mem_range.2 hk, ?_⟩)
   rw[Array.getElem?_eq_getElem hk,e]
   simp
 · intro b yN hl
   have h2:=(List.mem_filter.1 yN).2
   rw[Array.getElem?_eq_getElem hl]at h2 ⊢
   cases ho:w.heap[b]with
   | cells c t f=>
    rw[ho]at h2
    exact⟨c,t,f,rfl,.inr (by simpa using h2)⟩
   | _=>rw[ho]at h2;simp at h2
theorem qC.heap{w w':World}(h:qC w w'){k:Nat}{o:Obj}(hk:w.heap[k]?=some o)(ho:U7 o):w'.heap[k]?=some o:=by
 obtain⟨S,h1,h2⟩:=h.kb
 refine h1.heap hk ?_
 intro hS
 obtain⟨cur,t,fz,e,ht⟩:=h2 k hS (lt_of_heap hk)
 rw[hk]at e
 obtain⟨a,b⟩:=ho cur t fz (Option.some.inj e)
 rcases ht with rfl | rfl
 · exact a rfl
 · exact b rfl
theorem qC.trans{w w1 w2:World}(h:qC w w1)(k:qC w1 w2):qC w w2:=by
 obtain⟨S1,a1,a2⟩:=h.kb
 obtain⟨S2,b1,b2⟩:=k.kb
 refine⟨S1++S2,(a1.mono (fun i hi _=>by simp[hi])).trans (b1.mono (fun i hi _=>by simp[hi])), ?_⟩
 intro b hb hl
 by_cases bk:b∈S1
 · exact a2 b bk hl
 · have cM:b∈S2:=by simpa [bk]using hb
   obtain⟨cur,t,fz,e,ht⟩:=b2 b cM (Nat.lt_of_lt_of_le hl a1.size)
   rw[a1.block b hl bk]at e
   exact⟨cur,t,fz,e,ht⟩
theorem qC.S5{w w':World}(h:qC w w'):∃S,Kb S w w'∧∀b o,w.heap[b]?=some o→U7 o→¬b∈S:=by
 obtain⟨S,h1,h2⟩:=h.kb
 refine⟨S,h1,fun b o hb ho hS=> ?_⟩
 obtain⟨cur,t,fz,e,ht⟩:=h2 b hS (lt_of_heap hb)
 rw[hb]at e
 obtain⟨x,y⟩:=ho cur t fz (Option.some.inj e)
 rcases ht with rfl | rfl
 · exact x rfl
 · exact y rfl
theorem iN{c:Array Value}{t:TypeId}{f:Nat×Nat}(h1:t≠109)(h2:t≠5):U7 (.cells c t f):=fun c' t' f' e=>by
 cases e
 exact⟨h1,h2⟩
theorem jY.VL{w w':World}{gm:Nat}{G:List GT}(h:jY w gm G)(hk:qC w w'):jY w' gm G:=by
 obtain⟨S,h1,h2⟩:=hk.S5
 refine h.kept h1 ?_
 intro b hb
 unfold ev at hb
 rcases List.mem_cons.1 hb with rfl | hb
 · obtain⟨es,ck,e⟩:=h.map.block
   exact h2 b _ e (fun _ _ _ e=>by cases e)
 · obtain⟨u,hu,hb⟩:=List.mem_flatMap.1 hb
   obtain⟨cur,T,e,hT⟩:=(h.bX u hu).types hb
   refine h2 b _ e (iN ?_ ?_)
   · rcases hT with rfl | rfl<;>decide
   · rcases hT with rfl | rfl<;>decide
theorem p5.VL{w w':World}{hm:Nat}{T:List HT}{s:En.cU En.bE}(h:p5 w hm T s)(hk:qC w w'):p5 w' hm T s:=by
 obtain⟨S,h1,h2⟩:=hk.S5
 refine h.kept h1 ?_
 intro b hb
 unfold cA at hb
 rcases List.mem_cons.1 hb with rfl | hb
 · obtain⟨es,ck,e⟩:=h.map.block
   exact h2 b _ e (fun _ _ _ e=>by cases e)
 · obtain⟨u,hu,hb⟩:=List.mem_flatMap.1 hb
   obtain⟨cur,T,e,hT⟩:=(h.bX u hu).types hb
   refine h2 b _ e (iN ?_ ?_)
   · rcases hT with rfl | rfl | rfl<;>decide
   · rcases hT with rfl | rfl | rfl<;>decide
theorem aB.VL{w w':World}{rd:Option Addr}{rc:Nat}{l:List MR}(h:aB w rd rc l)(hk:qC w w'):aB w' rd rc l:=by
 obtain⟨S,h1,h2⟩:=hk.kb
 refine h.kept h1 ?_
 intro b cur U hb e
 obtain⟨oJ,t,fz,e2,ht⟩:=h2 b hb (lt_of_heap e)
 rw[e]at e2
 simp at e2
 rw[e2.2.1]
 rcases ht with rfl | rfl<;>decide
theorem Pp{n:Nat}(h:n≤127):(Rc.aV n).length=1:=by
 unfold Rc.aV
 rw[if_pos h]
 rfl
theorem Fv{t:ByteArray}(h:t.size≤127):(Rc.aL t).length=1+t.size:=by
 unfold Rc.aL
 rw[List.length_append,Pp h]
 rfl
theorem CN(i:Nat):(cP i).2.length≤2:=by
 have key:∀p x y,(pO p x y).2.length≤2:=by
  intro p x y
  unfold pO
  split<;>simp
 unfold cP
 split
 · exact key _ _ _
 · split<;>exact key _ _ _
theorem L6{f:FI}{i:Nat}(hi:i<36)(h1:f.pred=(cP i).1)(h2:f.args=(cP i).2):(Rc.fH f).length≤10:=by
 have a1:f.pred.size≤3:=by rw[h1];exact iX _ (te hi)
 have a2:=Rc.jA Rc.aL 3 f.args (fun a ha=>by
  rw[h2]at ha
  have:=(ks i a ha).2
  rw[Fv (by omega)]
  omega)
 have a3:f.args.length≤2:=by rw[h2];exact CN i
 unfold Rc.fH
 rw[List.length_append,Fv (by omega)]
 omega
theorem mM.mem{l:List FI}{is:List Nat}(h:mM l is){f:FI}(hf:f∈l):∃i,i<36∧f.pred=(cP i).1∧f.args=(cP i).2:=by
 have:(f.pred,f.args)∈is.map cP:=by rw[←h.1];exact List.mem_map.2 ⟨f,hf,rfl⟩
 obtain⟨i,hi,e⟩:=List.mem_map.1 this
 exact⟨i,h.2 i hi,by rw[e],by rw[e]⟩
theorem mM.small{l:List FI}{is:List Nat}(h:mM l is)(hl:l.length≤30):nt l where
 oo:=by omega
 cD:=fun f hf=>by
  obtain⟨i,hi,e,_⟩:=h.mem hf
  rw[e]
  exact Nat.le_trans (iX _ (te hi)) (by decide)
 args:=fun f hf=>by
  obtain⟨i,hi,_,e⟩:=h.mem hf
  rw[e]
  have:=CN i
  omega
 names:=fun f hf a ha=>by
  obtain⟨i,hi,_,e⟩:=h.mem hf
  rw[e]at ha
  have:=(ks i a ha).2
  omega
theorem Ab{l:List FI}{is:List Nat}(h:mM l is)(hl:l.length≤30):(Rc.kO l).length≤301:=by
 have:=Rc.jA Rc.fH 10 l (fun f hf=>by
  obtain⟨i,hi,e1,e2⟩:=h.mem hf
  exact L6 hi e1 e2)
 unfold Rc.kO
 rw[List.length_append,Pp (by omega)]
 omega
theorem Dz{c g:List FI}{ci gi:List Nat}(h1:mM c ci)(h2:mM g gi)(hc:c.length≤30)(hg:g.length≤30):(Rc.fK c g).length≤602:=by
 have:=Ab h1 hc
 have:=Ab h2 hg
 unfold Rc.fK
 rw[List.length_append]
 omega
theorem LB{ct:ByteArray}(h:ct.size≤602){hd:List UInt8}(hh:hd.length=32):(Rc.aL ct++hd).length≤1000:=by
 have:=Rc.rm ct.size (by omega)
 unfold Rc.aL
 have e:ct.data.toList.length=ct.size:=by simp
 rw[List.length_append,List.length_append,e]
 omega
end
/- Engine.Apply: its regions' blocks. -/
section
open Go.RowKit Go.Maps
structure AI(w1:World)(b:Option Nat)(W:World):Prop where
 be:Below w1.heap.size w1 W
 da:∀x,b=some x→w1.heap.size≤x∧∃Z,W.heap[x]?=some (.cells Z 107 (0,0))∧Z.size=36
theorem AI.below{w1 W w':World}{b:Option Nat}(h:AI w1 b W)(hb:Below W.heap.size W w'):AI w1 b w':=by
 refine⟨h.be.trans (hb.mono h.be.size), ?_⟩
 intro x hx
 obtain⟨h1,Z,h2,h3⟩:=h.da x hx
 exact⟨h1,Z,by rw[hb.block _ (lt_of_heap h2)];exact h2,h3⟩
theorem AI.drew{w1 W:World}{b:Option Nat}(h:AI w1 b W):AI w1 b W.drew:=h.below (Below.refl _ _).drew
theorem AI.alloc{w1 W:World}{Z:Array Value}(h:AI w1 none W)(hz:Z.size=36):AI w1 (some W.heap.size) (W.alloc (.cells Z 107)):=by
 have h2:=h.below (w':=W.alloc (.cells Z 107)) ((Below.refl _ _).alloc (Nat.le_refl _) _)
 refine⟨h2.be, ?_⟩
 intro x hx
 simp only[Option.some.injEq]at hx
 subst hx
 exact⟨h.be.size,Z,heap_alloc_new _ _,hz⟩
theorem AI.stored{w1 W:World}{x:Nat}{cs:Array Value}(h:AI w1 (some x) W)(hc:cs.size=36):Below w1.heap.size w1 (W.setCells x 0 cs.toList):=by
 obtain⟨h1,Z,h2,h3⟩:=h.da x rfl
 obtain⟨hh,hk⟩:=bO x cs.toList 0 Z W h2 (by simp;omega)
 exact hk.aK h.be h.be.size (by simpa using h1)
theorem Py{w1 W:World}{b:Option Nat}{cs:Array Value}(h:AI w1 b W)(hc:cs.size=36)(h1:∀v,v∈cs.toList→v.oneCell'=true):ve cs b W:=by
 cases b with
 | some x=>
  obtain⟨_,Z,h2,h3⟩:=h.da x rfl
  exact cO h2 h3 hc h1
 | none=>
  intro Z hZ
  exact cO (heap_alloc_new _ _) hZ hc h1
structure AE(w1:World)(kl:List Ax.aM)(gv:Nat→Bool)(hm:Nat)(b:Option Nat)(W:World):Prop where
 ai:AI w1 b W
 out:∃T s,p5 W hm T s∧En.Inv (En.sR (En.cF kl)) (En.gF gv) s s.found.length∧(∀p,p∈T.map iR↔p∈oj)∧(∀x,b=some x→∀y,y∈cA hm T→y≠x)∧∀y,y∈cA hm T→w1.heap.size≤y
theorem AE.alloc{w1 W:World}{kl:List Ax.aM}{gv:Nat→Bool}{hm:Nat}{Z:Array Value}(h:AE w1 kl gv hm none W)(hz:Z.size=36):AE w1 kl gv hm (some W.heap.size) (W.alloc (.cells Z 107)):=by
 obtain⟨T,s,e1,e2,e3,e4,e5⟩:=h.out
 refine⟨h.ai.alloc hz,T,s,e1.below ((Below.refl _ _).alloc (Nat.le_refl _) _),e2,e3, ?_,e5⟩
 intro x hx y hy e
 simp only[Option.some.injEq]at hx
 have:=e1.lt hy
 omega
structure Y4(w1:World)(kl:List Ax.aM)(gv:Nat→Bool)(pl:ByteArray)(rv:Value)(gm:Nat)(hd:List UInt8)(v8 v10:Value)(wx:World):Prop where
 v8:v8=.bool true
 out:∃x hm T s,v10=.pointer (some ⟨x,0,none⟩)∧w1.heap.size≤x∧wx.heap[x]?=some (.cells (aI pl rv gm hm hd) 107 (0,0))∧p5 wx hm T s∧En.Inv (En.sR (En.cF kl)) (En.gF gv) s s.found.length∧(∀p,p∈T.map iR↔p∈oj)∧Below w1.heap.size w1 wx∧∀y,y∈cA hm T→w1.heap.size≤y
theorem AE.cut{w1 W:World}{kl:List Ax.aM}{gv:Nat→Bool}{pl:ByteArray}{rv:Value}{gm hm x:Nat}{hd:List UInt8}(h:AE w1 kl gv hm (some x) W)(hh:hd.length=32):Y4 w1 kl gv pl rv gm hd (.bool true) (.pointer (some ⟨x,0,none⟩)) (W.setCells x 0 (aI pl rv gm hm hd).toList):=by
 obtain⟨pE,Z,h2,h3⟩:=h.ai.da x rfl
 obtain⟨T,s,e1,e2,e3,e4,e5⟩:=h.out
 obtain⟨Ww,hk⟩:=bO x (aI pl rv gm hm hd).toList 0 Z W h2 (by simp[aQ _ _ _ _ hh,h3])
 exact⟨rfl,x,hm,T,s,rfl,pE,eO h2 h3 (aQ _ _ _ _ hh),e1.kept hk (fun b hb=>by simpa using e4 x rfl b hb),e2,e3,h.ai.stored (aQ _ _ _ _ hh),e5⟩
theorem oW{w:World}{eg:Nat}{pl:ByteArray}{rv:Value}{gm hm:Nat}{hd:List UInt8}{lv:Value}{fr:Nat×Nat}(h:w.heap[eg]?=some (.cells (bH pl rv gm hm hd lv) 109 fr))(hh:hd.length=32):
 w.cell? ⟨eg,0,none⟩=some (.string pl)∧w.cell? ⟨eg,1,none⟩=some rv∧w.cell? ⟨eg,2,none⟩=some (.map (some gm))∧w.cell? ⟨eg,3,none⟩=some (.map (some hm))∧w.rangeAt eg 4 (Rc.bB hd)∧w.cell? ⟨eg,36,none⟩=some lv:=by
 have hu:(Rc.bB hd).length=32:=by rw[Rc.bC,hh]
 refine⟨?_, ?_, ?_, ?_, ?_, ?_⟩
 · rw[cell_of_row _ _ _ _ _ _ h];rfl
 · rw[cell_of_row _ _ _ _ _ _ h];rfl
 · rw[cell_of_row _ _ _ _ _ _ h];rfl
 · rw[cell_of_row _ _ _ _ _ _ h];rfl
 · intro j v hv
   have hj:j<32:=by rw[←hu];exact(List.getElem?_eq_some_iff.1 hv).1
   rw[cell_of_row _ _ _ _ _ _ h]
   unfold bH
   rw[List.getElem?_toArray,List.append_assoc,List.getElem?_append_right (by simp),List.getElem?_append_left (by simp[hu];omega)]
   simpa using hv
 · rw[cell_of_row _ _ _ _ _ _ h]
   unfold bH
   rw[List.getElem?_toArray,List.getElem?_append_right (by simp[hu])]
   simp[hu]
theorem sw(pl:ByteArray)(rv:Value)(gm hm:Nat){hd:List UInt8}(lv:Value)(h:hd.length=32):(bH pl rv gm hm hd lv).size=37:=by simp[bH,Rc.bC,h]
theorem Ln{w:World}{eg:Nat}{pl pl':ByteArray}{rv rv':Value}{gm hm gm' hm':Nat}{hd AY:List UInt8}{lv:Value}(h:w.heap[eg]?=some (.cells (bH pl rv gm hm hd lv) 109 (0,0)))(hh:hd.length=32)(Ww:AY.length=32):
 (w.setCells eg 0 (aI pl' rv' gm' hm' AY).toList).heap[eg]?=some (.cells (bH pl' rv' gm' hm' AY lv) 109 (0,0))∧Kb [eg] w (w.setCells eg 0 (aI pl' rv' gm' hm' AY).toList):=by
 obtain⟨h1,h2⟩:=bO eg (aI pl' rv' gm' hm' AY).toList 0 _ w h (by simp[aQ _ _ _ _ Ww,sw _ _ _ _ _ hh])
 refine⟨?_,h2⟩
 rw[h1]
 have e:(bH pl rv gm hm hd lv).toList.drop (0+(aI pl' rv' gm' hm' AY).toList.length)=[lv]:=by
  rw[Array.length_toList,aQ _ _ _ _ Ww]
  unfold bH
  have hu:(Rc.bB hd).length=32:=by rw[Rc.bC,hh]
  rw[List.toList_toArray,List.drop_append_of_le_length (by simp[hu])]
  rw[List.drop_eq_nil_of_le (by simp[hu])]
  rfl
 rw[e]
 congr 2
theorem U2{w:World}{eg:Nat}{pl:ByteArray}{rv:Value}{gm hm:Nat}{hd:List UInt8}{lv:Value}(h:w.heap[eg]?=some (.cells (bH pl rv gm hm hd lv) 109 (0,0)))(hh:hd.length=32)(v:Value):
 (w.setCell ⟨eg,36,none⟩ v).heap[eg]?=some (.cells (bH pl rv gm hm hd v) 109 (0,0)):=by
 rw[an w h 36 v]
 have hu:(Rc.bB hd).length=32:=by rw[Rc.bC,hh]
 have e:(bH pl rv gm hm hd lv).setIfInBounds 36 v=bH pl rv gm hm hd v:=by
  unfold bH
  rw[List.setIfInBounds_toArray,List.set_append_right _ _ (by simp[hu])]
  simp[hu]
 rw[e]
theorem Em{W:World}{x o eg:Nat}{cs:List Value}(h:W.rangeAt x o cs)(cL:x≠eg)(k:Nat)(v:Value):(W.setCell ⟨eg,k,none⟩ v).rangeAt x o cs:=World.rangeAt_setCells_apart h eg k [v] (.inl cL)
theorem KA(K:Nat→Int)(a:List UInt8)(c:ByteArray):(oY K a c).length=32:=Dg.xz _ _
end
end Go.Proofs.YtdmicblafmhflaaGreatDoor

/- Replayed, walked. -/
import Derived.Test.YtdmicblafmhflaaGreatDoorC51
set_option linter.unusedSimpArgs false
set_option linter.unusedVariables false
set_option maxHeartbeats 2000000
set_option maxRecDepth 100000
namespace Go.Proofs.YtdmicblafmhflaaGreatDoor
section
open Go.RowKit Go.Maps
structure NG(K:Nat→Int)(wr:World)(kl:List Ax.ay)(X:Nat→Bool)(hd:List UInt8)(tl:List (List Int×List Int))(k a b:Nat)(W:World):Prop where
 a:xi K wr W a kl X hd (tl.take k)
 b:∃w0,xi K w0 W b kl X hd (tl.take tl.length)
theorem NG.below{K:Nat→Int}{wr:World}{kl:List Ax.ay}{X:Nat→Bool}{hd:List UInt8}{tl:List (List Int×List Int)}{k a b:Nat}{W w':World}(h:NG K wr kl X hd tl k a b W)(hb:Below W.heap.size W w'):NG K wr kl X hd tl k a b w':=by
 obtain⟨w0,h1⟩:=h.b
 exact⟨h.a.below hb,w0,h1.below hb⟩
theorem xi.Ir{K:Nat→Int}{w wr:World}{eg:Nat}{kl:List Ax.ay}{X:Nat→Bool}{hd:List UInt8}{l:List (List Int×List Int)}(h:xi K w wr eg kl X hd l)(hg:jk X):Calls Tryz.prog 23 #[.pointer (some ⟨eg,0,none⟩)] wr fun e w'=>e=.returned (.string (Rp.Hk K kl X hd l))∧Below wr.heap.size wr w':=by
 obtain⟨lv,h1⟩:=h.hd
 exact tw h.KW (pa _ hg) h1 wr (Below.refl _ _)
theorem xi.Zg{K:Nat→Int}{w wr:World}{eg:Nat}{kl:List Ax.ay}{X:Nat→Bool}{hd:List UInt8}{l:List (List Int×List Int)}(h:xi K w wr eg kl X hd l):Calls Tryz.prog 29 #[.pointer (some ⟨eg,0,none⟩)] wr fun e w'=>e=.returned (.string ⟨(Rp.cB K hd l).toArray⟩)∧w'=wr:=by
 obtain⟨lv,h1⟩:=h.hd
 exact vU h1
theorem row_one{w:World}{B:Nat}(hB:B≤w.heap.size)(t:TypeId)(v:Value):(w.alloc (.cells #[v] t)).ownsRow B t 1 (.slice (some ⟨w.heap.size,0,none⟩) 1 1) 1 [v]:=⟨rfl,.inr ⟨_,1,#[v],rfl,hB,heap_alloc_new _ _,Nat.le_refl _,by decide,rfl,rfl⟩⟩
theorem qM.first{K:Nat→Int}{w w2:World}{rv:Value}{kl:List Ax.ay}{X:Nat→Bool}{n0:Nat}{hd F:List UInt8}(tl:List (List Int×List Int)){sx ex:Nat}{lv:Value}(h1:sW w.heap.size w2 sx ex rv kl X X n0)(h2:eG w2 ex hd (Rc.bA F) lv)(hb:Below w.heap.size w w2):
 qM K w rv kl X n0 hd F tl sx ex 0 0 0 (.slice (some ⟨w2.heap.size,0,none⟩) 1 1) (.slice (some ⟨w2.heap.size+1,0,none⟩) 1 1) ((w2.alloc (.cells #[.int .i64 0] 3)).alloc (.cells #[.string (Rp.Hk K kl X hd [])] 9)):=by
 have ba:Below w2.heap.size w2 (w2.alloc (.cells #[.int .i64 0] 3)):=(Below.refl _ _).alloc (Nat.le_refl _) _
 have bb:Below (w2.alloc (.cells #[.int .i64 0] 3)).heap.size (w2.alloc (.cells #[.int .i64 0] 3)) ((w2.alloc (.cells #[.int .i64 0] 3)).alloc (.cells #[.string (Rp.Hk K kl X hd [])] 9)):=(Below.refl _ _).alloc (Nat.le_refl _) _
 have pI:=ba.trans (bb.mono ba.size)
 have hs:=hb.size
 refine⟨h1.below pI,⟨lv, ?_⟩,ae (row_one hs _ _) bb, ?_,hb.trans (pI.mono hs)⟩
 · have:=h2.below pI
   simpa [Rp.p5,Rp.cB]using this
 · have:=row_one (w:=w2.alloc (.cells #[.int .i64 0] 3)) (B:=w.heap.size) (by simp;omega) 9 (.string (Rp.Hk K kl X hd []))
   rw[World.size_alloc]at this
   exact this
theorem zm(K:Nat→Int)(w:World)(ad:Option Addr)(m c:Nat)(kl:List Ax.ay)(hR:rR w ad m c kl)(sd:Option Addr)(sn sc:Nat)(sl:List (List Int×List Int))(hS:wu w sd sn sc sl)(td:Option Addr)(tn tc:Nat)(tl:List (List Int×List Int))(hT:wu w td tn tc tl)(cv:Int)(Fq:cw cv)(hs:sl.length+tl.length≤1048576)(hK:Dg.ui w K)(hU:eY w):
 Calls Tryz.prog 10 #[.slice ad m c,.slice sd sn sc,.slice td tn tc,.int .i64 cv] w fun e w'=>e=.returned (.bool true)∧Below w.heap.size w w':=by
 obtain⟨i0,jt,ew,dZ,dU⟩:=info_parts Tryz.Ed
 have HI:Hid (Tryz.prog.info? 3=some i0):=jt
 have H0:Hid (i0.zero=some (.int .i64 0)):=ew
 have HI1:Hid (i0.size=1):=dZ
 have HI2:Hid (i0.bytes=8):=dU
 obtain⟨i1,WE,TJ,Yq,YP⟩:=info_parts Tryz.py
 have HJ:Hid (Tryz.prog.info? 9=some i1):=WE
 have HJ0:Hid (i1.zero=some (.string ByteArray.empty)):=TJ
 have HJ1:Hid (i1.size=1):=Yq
 have HJ2:Hid (i1.bytes=16):=YP
 clear jt ew dZ dU WE TJ Yq YP
 have zn:=hT.len
 subst zn
 have mH:=hT.cap
 have hmx:tc≤9223372036854775807:=hT.max
 have LU:sl.length≤1048576:=by omega
 have tJ:tl.length≤1048576:=by omega
 obtain⟨X,hX⟩:∃X,X=jB sl:=⟨_,rfl⟩
 have Sq:Hid (jk X):=by rw[hX];exact Ob sl
 have HRX:Hid (Calls Tryz.prog 22 #[.slice ad m c,.slice sd sn sc] w fun e w1=>∃sb eg,e=.returned (.pointer (some ⟨sb,0,none⟩))∧w1.cell? ⟨sb,0,none⟩=some (.pointer (some ⟨eg,0,none⟩))∧sb<w1.heap.size∧Hid (sW w.heap.size w1 sb eg (.slice ad (min m 6) c) kl X X sl.length∧Below w.heap.size w w1∧∃hd F lv,eG w1 eg hd (Rc.bA F) lv)):=by
  rw[hX]
  refine(RG K w ad m c kl hR sd sn sc sl hS (by omega) hK hU).mono ?_
  rintro e w' ⟨a,b,rfl,q1,q2⟩
  exact⟨a,b,rfl,q1.lP.cells.1,lt_of_heap q1.lP,q1,q2⟩
 have MJ:Hid (∀W,Below w.heap.size w W→Dg.ui W K∧eY W):=fun W hW=>⟨hK.below hW,Utf8Tabs_below hU hW⟩
 have HTT:Hid (wu w td tl.length tc tl):=hT
 have HCV:Hid (cw cv):=Fq
 clear hR hS hT hK hU hX Fq
 go_enter Tryz.func10,Tryz.ntmps10
 go_upto_region 4 with(go_at_call 22;refine HRX.out.mono ?_;rintro e w1 ⟨sx,ex,rfl,s0,s1,H1⟩)
 obtain⟨hd,F,lvx,dx⟩:=H1.out.2.2
 have bT:=dx.K8
 have hFl:F.length≤1048576000:=by
  have:=H1.out.1.KW.VI dx
  rw[Rc.bB]at this
  omega
 obtain⟨S,Yf⟩:∃S:ByteArray,S=Rp.Hk K kl X hd []:=⟨_,rfl⟩
 obtain⟨FB,hFB⟩:∃FB:ByteArray,FB=⟨F.toArray⟩:=⟨_,rfl⟩
 have hFs:FB.size=F.length:=by rw[hFB];rfl
 have Zm:Hid (Calls Tryz.prog 23 #[.pointer (some ⟨ex,0,none⟩)] w1 fun e w2=>e=.returned (.string S)∧w2.cell? ⟨sx,0,none⟩=some (.pointer (some ⟨ex,0,none⟩))∧sx<w2.heap.size∧Hid (sW w.heap.size w2 sx ex (.slice ad (min m 6) c) kl X X sl.length∧eG w2 ex hd (Rc.bA F) lvx∧Below w.heap.size w w2)):=by
  rw[Yf]
  refine(tw H1.out.1.KW Sq.out dx w1 (Below.refl _ _)).mono ?_
  rintro e w2 ⟨rfl,hb⟩
  have q:=H1.out.1.below hb
  exact⟨rfl,q.lP.cells.1,lt_of_heap q.lP,q,dx.below hb,H1.out.2.1.trans (hb.mono H1.out.2.1.size)⟩
 have HL1:Hid (∀W,eG W ex hd (Rc.bA F) lvx→Calls Tryz.prog 29 #[.pointer (some ⟨ex,0,none⟩)] W fun e w2=>e=.returned (.string FB)∧W=w2):=by
  intro W hW
  rw[hFB]
  exact(vU hW).mono (fun e w' ⟨a,b⟩=>⟨a,b.symm⟩)
 have LP:Hid (S=Rp.Hk K kl X hd []):=Yf
 have RW:Hid (FB=⟨F.toArray⟩):=hFB
 clear dx Yf HRX hFB H1
 go_wp2_with (first | (go_at_call 23;refine Zm.out.mono ?_;rintro e w2 ⟨rfl,s2,s3,H2⟩) | (go_at_call 29;refine(HL1.out w2 H2.out.2.1).mono ?_;rintro e w3 ⟨rfl,rfl⟩))
 have HRY:Hid (qM K w (.slice ad (min m 6) c) kl X sl.length hd F tl sx ex 0 0 0 (.slice (some ⟨w2.heap.size,0,none⟩) 1 1) (.slice (some ⟨w2.heap.size+1,0,none⟩) 1 1) ((w2.alloc (.cells #[.int .i64 0] 3)).alloc (.cells #[.string S] 9))):=by
  rw[LP.out]
  exact qM.first tl H2.out.1 H2.out.2.1 H2.out.2.2
 clear Zm HL1 H2 s0 s1 s2 s3
 go_loopw [12,13,14] (fun v12 sJ i wr=>∃(k:Nat),k≤tl.length∧i=.int .i64 k∧qM K w (.slice ad (min m 6) c) kl X sl.length hd F tl sx ex k k k v12 sJ wr) (fun _ _ i _=>tl.length-(intOf i).toNat)
 case atStart=>exact⟨0,Nat.zero_le _,rfl,HRY.out⟩
 case round=>
  obtain⟨k,hk,rfl,JL⟩:=hrel
  clear HRY
  obtain⟨d12,EW,e12⟩:=ah JL.ends
  obtain⟨d13,vD,e13⟩:=ah JL.j5
  subst e12
  subst e13
  obtain⟨g12,e12,ad5,ajH,Tx⟩:=aD JL.ends (by omega)
  obtain⟨g13,e13,abN,akt,h13⟩:=aD JL.j5 (by omega)
  subst e12
  subst e13
  have mw:=JL.aZ
  have t1:=JL.x.lP.cells.1
  have t2:=lt_of_heap JL.x.lP
  by_cases aE:k<tl.length
  · have vv:Hid (qM K w (.slice ad (min m 6) c) kl X sl.length hd F tl sx ex k k k (.slice (some ⟨g12,0,none⟩) (k+1) EW) (.slice (some ⟨g13,0,none⟩) (k+1) vD) wr):=JL
    have LI:decide ((k:Int)<(tl.length:Int))=true:=decide_eq_true (by omega)
    obtain⟨g,o,PL,a1,n1,c1,a2,n2,c2,q1,q2,i1,i2⟩:=HTT.out.at_ k aE
    subst PL
    have y1:=bx mw q1
    have y2:=bx mw q2
    have y3:g<wr.heap.size:=Nat.lt_of_lt_of_le (block_lt_of_cell q1) mw.size
    have Ij:Hid (Calls Tryz.prog 15 #[.pointer (some ⟨sx,0,none⟩),.agg #[.slice a1 n1 c1,.slice a2 n2 c2]] wr fun e w7=>e=.returned (.bool true)∧w7.cell? ⟨sx,0,none⟩=some (.pointer (some ⟨ex,0,none⟩))∧sx<w7.heap.size∧Hid (qM K w (.slice ad (min m 6) c) kl X sl.length hd F tl sx ex (k+1) k k (.slice (some ⟨g12,0,none⟩) (k+1) EW) (.slice (some ⟨g13,0,none⟩) (k+1) vD) w7∧zF w kl X sl.length tl ex (k+1) (.slice (some ⟨g12,0,none⟩) (k+1) EW) w7∧zF w kl X sl.length tl ex (k+1) (.slice (some ⟨g13,0,none⟩) (k+1) vD) w7)):=by
     have hW:=vv.out.x
     have hb:=vv.out.aZ
     have vk:∀W',Below w.heap.size wr W'→Below w.heap.size w W':=fun W' h=>hb.trans h
     refine(Ad K w.heap.size wr sx ex _ kl _ (sl.length+k) hW (by omega) (fun W' h=>MJ.out W' (vk W' h)) a1 n1 c1 _ (fun W' h _=>i1.below (vk W' h)) (fun g o e hl=>by have:=i1.lt g o e hl;have:=hW.le;omega) a2 n2 c2 _ (fun W' h _=>i2.below (vk W' h)) (fun g o e hl=>by have:=i2.lt g o e hl;have:=hW.le;omega)).mono ?_
     rintro e w' ⟨rfl,r1,r2,_,r4,r5⟩
     obtain⟨z1,z2,z3⟩:=vv.out.step aE r1 (vk w' r2) r4 r5
     exact⟨rfl,z1.x.lP.cells.1,lt_of_heap z1.x.lP,z1,z2,z3⟩
    obtain⟨q,hq⟩:∃q,q=Rp.en K hd tl (k+1):=⟨_,rfl⟩
    have QA:q≤671088640:=by
     have:=Rp.SE K hd tl (k+1)
     omega
    obtain⟨LS,Ti⟩:∃LS:ByteArray,LS=⟨(F++Rp.cB K hd (tl.take (k+1))).toArray⟩:=⟨_,rfl⟩
    have hLs:LS.size=F.length+q:=by
     rw[Ti,hq]
     show(F++Rp.cB K hd (tl.take (k+1))).toArray.size=_
     simp[Rp.en]
    obtain⟨p,hp⟩:∃p,p=F.length+q:=⟨_,rfl⟩
    rw[←hp]at hLs
    have hlf:decide ((p:Int)<(F.length:Int))=false:=decide_eq_false (by omega)
    have hpf:F.length≤p:=by omega
    have Zk:IntKind.i64.wrap ((p:Int)-(F.length:Int))=(q:Int):=by
     rw[IntKind.wrap_i64]
     omega
    have Up:Hid (∀W,qM K w (.slice ad (min m 6) c) kl X sl.length hd F tl sx ex (k+1) k k (.slice (some ⟨g12,0,none⟩) (k+1) EW) (.slice (some ⟨g13,0,none⟩) (k+1) vD) W→Calls Tryz.prog 29 #[.pointer (some ⟨ex,0,none⟩)] W fun e w'=>e=.returned (.string LS)∧W=w'):=by
     intro W hW
     obtain⟨lv,hv⟩:=hW.Wg
     rw[Ti]
     exact(vU hv).mono (fun e w' ⟨a,b⟩=>⟨a,b.symm⟩)
    have SD:Hid (∀W x5 Fu w5 (ob:Obj),qM K w (.slice ad (min m 6) c) kl X sl.length hd F tl sx ex (k+1) k k (.slice (some ⟨g12,0,none⟩) (k+1) EW) (.slice (some ⟨g13,0,none⟩) (k+1) vD) W→zF w kl X sl.length tl ex (k+1) (.slice (some ⟨g12,0,none⟩) (k+1) EW) W→zF w kl X sl.length tl ex (k+1) (.slice (some ⟨g13,0,none⟩) (k+1) vD) W→w5.ownsRow w.heap.size 3 1 (.slice (some ⟨x5,0,none⟩) (k+1+1) Fu) (k+1+1) (aA (Rp.ends K hd tl k)++[.int .i64 (q:Nat)])→(W.alloc ob).grownBy w5 (Value.slice (some ⟨g12,0,none⟩) (k+1) EW).ownBlock→w5.cell? ⟨sx,0,none⟩=some (.pointer (some ⟨ex,0,none⟩))∧sx<w5.heap.size∧Hid (qM K w (.slice ad (min m 6) c) kl X sl.length hd F tl sx ex (k+1) (k+1) k (.slice (some ⟨x5,0,none⟩) (k+1+1) Fu) (.slice (some ⟨g13,0,none⟩) (k+1) vD) w5∧zF w kl X sl.length tl ex (k+1) (.slice (some ⟨g13,0,none⟩) (k+1) vD) w5)):=by
     intro W x5 Fu w5 ob hW f1 f2 ho hg
     rw[hq]at ho
     have h9:=hW.end f1 f2 hg ho
     exact⟨h9.1.x.lP.cells.1,lt_of_heap h9.1.x.lP,h9⟩
    obtain⟨XB,hXB⟩:∃XB:ByteArray,XB=Rp.Hk K kl X hd (tl.take (k+1)):=⟨_,rfl⟩
    have HEX:Hid (∀W v,qM K w (.slice ad (min m 6) c) kl X sl.length hd F tl sx ex (k+1) (k+1) k v (.slice (some ⟨g13,0,none⟩) (k+1) vD) W→zF w kl X sl.length tl ex (k+1) (.slice (some ⟨g13,0,none⟩) (k+1) vD) W→Calls Tryz.prog 23 #[.pointer (some ⟨ex,0,none⟩)] W fun e w'=>e=.returned (.string XB)∧w'.ownsRow w.heap.size 9 1 (.slice (some ⟨g13,0,none⟩) (k+1) vD) (k+1) (strCells (Rp.j5 K kl X hd tl k))∧Hid (qM K w (.slice ad (min m 6) c) kl X sl.length hd F tl sx ex (k+1) (k+1) k v (.slice (some ⟨g13,0,none⟩) (k+1) vD) w'∧zF w kl X sl.length tl ex (k+1) (.slice (some ⟨g13,0,none⟩) (k+1) vD) w')):=by
     intro W v hW hF
     obtain⟨lv,hv⟩:=hW.Wg
     rw[hXB]
     refine(tw hW.x.KW (pa _ Sq.out) hv W (Below.refl _ _)).mono ?_
     rintro e w' ⟨rfl,hb⟩
     have h9:=hW.below hb
     exact⟨rfl,h9.j5,h9,hF.below hb⟩
    have Sb:Hid (∀W v x5 Fu w5 (ob:Obj),qM K w (.slice ad (min m 6) c) kl X sl.length hd F tl sx ex (k+1) (k+1) k v (.slice (some ⟨g13,0,none⟩) (k+1) vD) W→zF w kl X sl.length tl ex (k+1) (.slice (some ⟨g13,0,none⟩) (k+1) vD) W→w5.ownsRow w.heap.size 9 1 (.slice (some ⟨x5,0,none⟩) (k+1+1) Fu) (k+1+1) (strCells (Rp.j5 K kl X hd tl k)++[.string XB])→(W.alloc ob).grownBy w5 (Value.slice (some ⟨g13,0,none⟩) (k+1) vD).ownBlock→qM K w (.slice ad (min m 6) c) kl X sl.length hd F tl sx ex (k+1) (k+1) (k+1) v (.slice (some ⟨x5,0,none⟩) (k+1+1) Fu) w5):=by
     intro W v x5 Fu w5 ob hW hF ho hg
     rw[hXB]at ho
     exact hW.exp hF hg ho
    have nT:(aA (Rp.ends K hd tl k)).length=k+1:=by have:=JL.ends.1;omega
    have P4:(strCells (Rp.j5 K kl X hd tl k)).length=k+1:=by have:=JL.j5.1;omega
    have HOE:Hid (∀W sJ,qM K w (.slice ad (min m 6) c) kl X sl.length hd F tl sx ex (k+1) k k (.slice (some ⟨g12,0,none⟩) (k+1) EW) sJ W→W.ownsRow w.heap.size 3 1 (.slice (some ⟨g12,0,none⟩) (k+1) EW) (k+1) (aA (Rp.ends K hd tl k))):=fun W v h=>h.ends
    generalize aA (Rp.ends K hd tl k)=xs at SD HOE nT
    generalize strCells (Rp.j5 K kl X hd tl k)=ys at HEX Sb P4
    clear JL vv q1 q2 i1 i2 Tx h13 mw hq Ti hXB MJ HTT LP RW hp
    go_wp2_with (first | (go_at_call 15;refine Ij.out.mono ?_;rintro e w7 ⟨rfl,z1,z2,H7⟩;clear Ij;have ho7:=HOE.out _ _ H7.out.1;have hs7:=H7.out.1.aZ.size) | (go_at_call 29;refine(Up.out w7 H7.out.1).mono ?_;rintro e w9 ⟨rfl,rfl⟩;clear Up) | (go_at_call 23;refine(HEX.out _ _ H8.out.1 H8.out.2).mono ?_;rintro e wx ⟨rfl,hox,HX⟩;clear HEX H8;have SP:=HX.out.1.aZ.size) | (at_builtin;first | ((refine wpList_append_lies _ rfl (.tmp 75) (.tmp 81) 31 rfl w.heap.size 3 i0 _ 1 8 Tryz.underlying31 HI.out H0.out HI1.out HI2.out rfl (by decide) _ _ _ rfl (ho7.alloc _) ⟨w7.heap.size,0,none⟩ 1 1 [.int .i64 (q:Nat)] rfl rfl (World.news_of_block (heap_alloc_new _ _)) (by simp[Value.oneCell']) (by decide) (by unfold maxLen;omega) (by omega) (by simp;omega) (w7.heap.size+1) (by simp) ?_);intro x8 abl w8 Sm Nn adW _;obtain⟨z3,z4,H8⟩:=SD.out w7 x8 abl w8 _ H7.out.1 H7.out.2.1 H7.out.2.2 Sm Nn;clear SD H7 ho7 hs7 Sm Nn adW z1 z2) | ((refine wpList_append_lies _ rfl (.tmp 83) (.tmp 89) 46 rfl w.heap.size 9 i1 _ 1 16 Tryz.underlying46 HJ.out HJ0.out HJ1.out HJ2.out rfl (by decide) _ _ _ rfl (hox.alloc _) ⟨wx.heap.size,0,none⟩ 1 1 [.string XB] rfl rfl (World.news_of_block (heap_alloc_new _ _)) (by simp[Value.oneCell']) (by decide) (by unfold maxLen;omega) (by omega) (by simp;omega) (wx.heap.size+1) (by simp) ?_);intro x9 abh wz Ea Ch acX _;have H9:=Sb.out wx _ x9 abh wz _ HX.out.1 HX.out.2 Ea Ch;clear Sb HX hox SP Ea Ch acX)))
    go_roundw
    case rel=>exact⟨k+1,aE,by go_num,H9⟩
    case measure=>simp[intOf];omega
  · have vA:k=tl.length:=by omega
    subst vA
    obtain⟨wA,rfl⟩:∃x,x=wr:=⟨_,rfl⟩
    have vv:Hid (qM K w (.slice ad (min m 6) c) kl X sl.length hd F tl sx ex tl.length tl.length tl.length (.slice (some ⟨g12,0,none⟩) (tl.length+1) EW) (.slice (some ⟨g13,0,none⟩) (tl.length+1) vD) wA):=JL
    have LI:decide ((tl.length:Int)<(tl.length:Int))=false:=decide_eq_false (by omega)
    obtain⟨q,hq⟩:∃q,q=(Rp.cB K hd tl).length:=⟨_,rfl⟩
    have QA:q≤671088640:=by
     have:=Rp.vH K tl hd
     omega
    obtain⟨GS,WO⟩:∃GS:ByteArray,GS=⟨(F++Rp.cB K hd tl).toArray⟩:=⟨_,rfl⟩
    obtain⟨LS,Ti⟩:∃LS:ByteArray,LS=⟨(Rp.cB K hd tl).toArray⟩:=⟨_,rfl⟩
    obtain⟨p,hp⟩:∃p,p=F.length+q:=⟨_,rfl⟩
    have hGs:GS.size=p:=by
     rw[WO,hp,hq]
     show(F++Rp.cB K hd tl).toArray.size=_
     simp
    have hLs:LS.size=q:=by rw[Ti,hq];rfl
    have pQ:GS.extract 0 F.length=FB:=by
     rw[WO,RW.out]
     exact Gw _ _
    have LF:GS.extract F.length p=LS:=by
     rw[WO,Ti,hp,hq]
     exact M6 _ _
    have Up:Hid (Calls Tryz.prog 29 #[.pointer (some ⟨ex,0,none⟩)] wA fun e w'=>e=.returned (.string GS)∧wA=w'):=by
     obtain⟨lv,hv⟩:=vv.out.Wg
     rw[WO]
     rw[List.take_length]at hv
     exact(vU hv).mono (fun e w' ⟨a,b⟩=>⟨a,b.symm⟩)
    have hlf:decide ((p:Int)<(F.length:Int))=false:=decide_eq_false (by omega)
    have hpf:F.length≤p:=by omega
    have b1:(0:Int)≤(F.length:Int):=by omega
    have b2:(F.length:Int)≤(p:Int):=by omega
    obtain⟨n,hn⟩:∃n,n=Ax.bk cv (q+1):=⟨_,rfl⟩
    have hnq:n≤q:=by
     have:=Ax.eE cv (q+1) (by omega)
     omega
    have HPK:Hid (∀W,Calls Tryz.prog 27 #[.int .i64 cv,.int .i64 ((q:Int)+1)] W fun e w'=>e=.returned (.int .i64 (n:Nat))∧W=w'):=by
     intro W
     rw[hn]
     exact(MG cv (q+1) W HCV.out (by omega) (by omega)).mono (fun e w' ⟨a,b⟩=>⟨a,b.symm⟩)
    have SD:Hid (∀j,j≤tl.length→wA.cell? ⟨g12,j,none⟩=some (.int .i64 (Rp.en K hd tl j:Nat))):=by
     intro j hj
     have:=Tx j _ (Rp.MZ K hd tl hj)
     simpa [Addr.add]using this
    have Sb:Hid (∀j,j≤tl.length→wA.cell? ⟨g13,j,none⟩=some (.string (Rp.Hk K kl X hd (tl.take j)))):=by
     intro j hj
     have:=h13 j _ (Rp.Og K kl X hd tl hj)
     simpa [Addr.add]using this
    have VK:Hid (LS=⟨(Rp.cB K hd tl).toArray⟩∧q=(Rp.cB K hd tl).length):=⟨Ti,hq⟩
    have HNQ:Hid (n≤(Rp.cB K hd tl).length):=by
     have h9:n≤(Rp.cB K hd tl).length:=by omega
     exact h9
    have U0:∀j,Rp.en K hd tl j≤671088640:=fun j=>by
     have:=Rp.SE K hd tl j
     omega
    have UP:Hid (∀j,Rp.en K hd tl j≤671088640):=U0
    clear JL Tx h13 hq WO Ti hp hn HTT U0 RW
    go_upto_region 24 with(first | (go_at_call 29;refine Up.out.mono ?_;rintro e w9 ⟨rfl,rfl⟩;clear Up) | (go_at_call 27;refine(HPK.out _).mono ?_;rintro e w9 ⟨rfl,rfl⟩;clear HPK))
    go_cut [19]from 118 (fun v19 wx=>v19=.int .i64 0∧wx=wA)
    case first=>
     go_wp2_with fail
     go_meet
     exact⟨rfl,rfl⟩
    case rest=>
     obtain⟨Nt,cZ⟩:=ko
     subst Nt
     subst cZ
     obtain⟨wA,rfl⟩:∃x,x=wc:=⟨_,rfl⟩
     rename_i hKK
     refine hKK _ _ ?_
     clear hKK
     refine wp_seq_k (fun K2 hK2=> ?_)
     go_cut [19]from 118 (fun v19 wx=>Hid (∃j:Nat,j≤tl.length∧v19=.int .i64 j∧Rp.en K hd tl j≤n∧(j=tl.length∨n<Rp.en K hd tl (j+1))∧wx=wA))
     case first=>
      try go_wp2_with fail
      go_loopw [19] (fun i W=>∃j:Nat,j≤tl.length∧i=.int .i64 j∧Rp.en K hd tl j≤n∧W=wA) (fun i _=>tl.length-(intOf i).toNat)
      case atStart=>exact⟨0,Nat.zero_le _,rfl,by simp[Rp.en,Rp.cB],rfl⟩
      case round=>
       obtain⟨j,hj,rfl,PE,rfl⟩:=hrel
       by_cases E5:j<tl.length
       · have hd1:decide ((j:Int)+1<(tl.length:Int)+1)=true:=decide_eq_true (by omega)
         have Kk:=SD.out (j+1) (by omega)
         obtain⟨e1,he1⟩:∃e1,e1=Rp.en K hd tl (j+1):=⟨_,rfl⟩
         rw[←he1]at Kk
         have Zm:Hid (e1=Rp.en K hd tl (j+1)):=he1
         have HJN:Hid (Rp.en K hd tl j≤n):=PE
         clear he1 PE
         by_cases hle:e1≤n
         · have qN:decide ((e1:Int)≤(n:Int))=true:=decide_eq_true (by omega)
           go_wp2_with fail
           go_roundw
           case rel=>exact⟨j+1,E5,by go_num,by rw[←Zm.out];exact hle,by first | rfl | trivial⟩
           case measure=>simp[intOf];omega
         · have qN:decide ((e1:Int)≤(n:Int))=false:=decide_eq_false (by omega)
           go_wp2_with fail
           go_meet
           exact⟨j,hj,rfl,HJN.out,.inr (by rw[←Zm.out];omega),by first | rfl | trivial⟩
       · have Wu:j=tl.length:=by omega
         subst Wu
         have hd1:decide ((tl.length:Int)+1<(tl.length:Int)+1)=false:=decide_eq_false (by omega)
         have HJN:Hid (Rp.en K hd tl tl.length≤n):=PE
         clear PE
         go_wp2_with fail
         go_meet
         exact⟨tl.length,Nat.le_refl _,rfl,HJN.out,.inl rfl,by first | rfl | trivial⟩
     case rest=>
      obtain⟨j,hj,hv,PE,BJ,hw⟩:=ko.out
      subst hv
      subst hw
      clear ko
      refine hK2 _ _ ?_
      clear hK2
      obtain⟨t,uk,qn,we⟩:=Rp.QT K hd tl hj PE BJ HNQ.out
      obtain⟨ej,RO⟩:∃ej,ej=Rp.en K hd tl j:=⟨_,rfl⟩
      have ajA:ej≤671088640:=by rw[RO];exact UP.out j
      have agY:ej≤n:=by rw[RO];exact PE
      obtain⟨TS,Y8⟩:∃TS:ByteArray,TS=⟨(Rp.cB K hd (tl.take j)++t).toArray⟩:=⟨_,rfl⟩
      have Sr:LS.extract 0 n=TS:=by
       rw[VK.out.1,Y8,←uk]
       exact xz _ _
      obtain⟨ES,YL⟩:∃ES:ByteArray,ES=⟨(Rp.cB K hd (tl.take j)).toArray⟩:=⟨_,rfl⟩
      have V3:LS.extract 0 ej=ES:=by
       rw[VK.out.1,YL,RO,←Rp.Rz K hd tl j]
       exact xz _ _
      obtain⟨zS,Xy⟩:∃zS,zS=S.size:=⟨_,rfl⟩
      have hSz:S.size=zS:=Xy.symm
      have dZ:1≤zS∧zS≤100000000:=by
       have h9:=vM kl X
       have h8:zS=(Ex.body kl X).length+32:=by
        rw[Xy,LP.out]
        show(Ex.body kl X++hd).toArray.size=_
        simp[bT]
       omega
      obtain⟨S1,hS1⟩:∃S1:ByteArray,S1=S.extract 1 zS:=⟨_,rfl⟩
      have hx4:S.extract 1 zS=S1:=hS1.symm
      have HP3:Hid (∀W,Calls Tryz.prog 30 #[.string S1,.string LS] W fun e w'=>e=.returned (.tuple #[.pointer none,.int .i64 0,.int .i64 8])∧Below W.heap.size W w'):=by
       intro W
       have e:S1=⟨((Ex.body kl X++hd).drop 1).toArray⟩:=by
        have h7:=sA (Ex.body kl X++hd) 1
        have h8:zS=(Ex.body kl X++hd).length:=by
         rw[Xy,LP.out]
         show(Ex.body kl X++hd).toArray.size=_
         simp
        rw[hS1,LP.out,h8]
        exact h7
       rw[e]
       exact FL W kl X hd bT LS
      have Pw:Hid (Calls Tryz.prog 30 #[.string S,.string TS] wc fun e w'=>∃eg,e=.returned (.tuple #[.pointer (some ⟨eg,0,none⟩),.int .i64 (ej:Nat),.int .i64 (if t=[]then 0 else 9)])∧Hid (xi K wc w' eg kl X hd (tl.take j))):=by
       rw[Y8,RO,LP.out]
       have Lo:=MJ.out wc vv.out.aZ
       exact(yf K wc kl X Sq.out hd bT Lo.1 Lo.2 tl j t tJ qn).mono (fun e w' ⟨a,b,d⟩=>⟨a,b,d⟩)
      have QX:Hid (∀W eg,xi K wc W eg kl X hd (tl.take j)→Calls Tryz.prog 30 #[.string S,.string LS] W fun e w'=>∃Z0,e=.returned (.tuple #[.pointer (some ⟨Z0,0,none⟩),.int .i64 (q:Nat),.int .i64 0])∧w'.cell? ⟨g12,j,none⟩=some (.int .i64 (ej:Nat))∧g12<w'.heap.size∧Hid (NG K wc kl X hd tl j eg Z0 w')):=by
       intro W eg hW
       have qL:=vv.out.aZ.trans (hW.aZ.mono vv.out.aZ.size)
       have Lo:=MJ.out W qL
       have h9:=yf K W kl X Sq.out hd bT Lo.1 Lo.2 tl tl.length [] tJ ⟨Nat.le_refl _,.inl rfl⟩
       rw[List.append_nil]at h9
       have e1:Rp.cB K hd (tl.take tl.length)=Rp.cB K hd tl:=by rw[List.take_length]
       rw[VK.out.1,VK.out.2,LP.out,RO]
       have Wr:=h9
       rw[e1]at Wr
       refine Wr.mono ?_
       rintro e w' ⟨Z0,rfl,hR⟩
       have Pu:=hW.below hR.aZ
       exact⟨Z0,rfl,bx Pu.aZ (SD.out j hj),Nat.lt_of_lt_of_le ad5 Pu.aZ.size,⟨Pu,W,hR⟩⟩
      obtain⟨XJ,ZT⟩:∃XJ:ByteArray,XJ=Rp.Hk K kl X hd (tl.take j):=⟨_,rfl⟩
      obtain⟨XL,hXL⟩:∃XL:ByteArray,XL=Rp.Hk K kl X hd (tl.take tl.length):=⟨_,rfl⟩
      have WU:Hid (∀W a b,NG K wc kl X hd tl j a b W→Calls Tryz.prog 23 #[.pointer (some ⟨a,0,none⟩)] W fun e w'=>e=.returned (.string XJ)∧Hid (NG K wc kl X hd tl j a b w')):=by
       intro W a b hW
       rw[ZT]
       exact(hW.a.Ir Sq.out).mono (fun e w' ⟨h1,h2⟩=>⟨h1,hW.below h2⟩)
      have ZS:Hid (∀W a b,NG K wc kl X hd tl j a b W→Calls Tryz.prog 23 #[.pointer (some ⟨b,0,none⟩)] W fun e w'=>e=.returned (.string XL)∧Hid (NG K wc kl X hd tl j a b w')):=by
       intro W a b hW
       rw[hXL]
       obtain⟨w0,h0⟩:=hW.b
       exact(h0.Ir Sq.out).mono (fun e w' ⟨h1,h2⟩=>⟨h1,hW.below h2⟩)
      have ZR:Hid (∀W a b,NG K wc kl X hd tl j a b W→Calls Tryz.prog 29 #[.pointer (some ⟨b,0,none⟩)] W fun e w'=>e=.returned (.string LS)∧W=w'):=by
       intro W a b hW
       obtain⟨w0,h0⟩:=hW.b
       have h1:=h0.Zg
       rw[List.take_length,←VK.out.1]at h1
       exact h1.mono (fun e w' ⟨a,b⟩=>⟨a,b.symm⟩)
      have ZW:Hid (∀W a b,NG K wc kl X hd tl j a b W→Calls Tryz.prog 29 #[.pointer (some ⟨a,0,none⟩)] W fun e w'=>e=.returned (.string ES)∧W=w'):=by
       intro W a b hW
       rw[YL]
       exact hW.a.Zg.mono (fun e w' ⟨a,b⟩=>⟨a,b.symm⟩)
      have Z6:Hid (∀W a b,NG K wc kl X hd tl j a b W→Calls Tryz.prog 30 #[.string S1,.string LS] W fun e w'=>e=.returned (.tuple #[.pointer none,.int .i64 0,.int .i64 8])∧w'.cell? ⟨g13,j,none⟩=some (.string XJ)∧w'.cell? ⟨g13,tl.length,none⟩=some (.string XL)∧g13<w'.heap.size∧Hid (Below w.heap.size w w')):=by
       intro W a b hW
       refine(HP3.out W).mono ?_
       rintro e w' ⟨rfl,hb⟩
       have Pu:=(hW.below hb).a.aZ
       rw[ZT,hXL]
       exact⟨rfl,bx Pu (Sb.out j hj),bx Pu (Sb.out tl.length (Nat.le_refl _)),Nat.lt_of_lt_of_le abN Pu.size,vv.out.aZ.trans (Pu.mono vv.out.aZ.size)⟩
      have j1:(0:Int)≤(j:Int):=by omega
      have j2:(j:Int)<(tl.length:Int)+1:=by omega
      have n1:(0:Int)≤(n:Int):=by omega
      have n2:(n:Int)≤(q:Int):=by omega
      have m1:(0:Int)≤(ej:Int):=by omega
      have m2:(ej:Int)≤(q:Int):=by omega
      have z1:(1:Int)≤(zS:Int):=by omega
      have z0:(0:Int)≤1:=by omega
      by_cases yx:t=[]
      · have cA:n=ej:=by rw[RO];exact we.1 yx
        rw[if_pos yx]at Pw
        have hTE:TS=ES:=by rw[Y8,YL,yx,List.append_nil]
        clear yx uk qn we PE BJ RO Y8 YL Xy hS1 ZT hXL HP3 LP VK HNQ UP MJ Sq SD Sb vv HCV dZ
        subst cA
        subst hTE
        clear V3
        go_wp2_with (first | (go_at_call 30;first | (refine Pw.out.mono ?_;rintro e w11 ⟨ea,rfl,XD⟩;clear Pw) | (refine(QX.out w11 ea XD.out).mono ?_;rintro e w12 ⟨eb,rfl,y1,y2,WX⟩;clear QX XD) | (refine(Z6.out _ _ _ QM.out).mono ?_;rintro e w15 ⟨rfl,y3,y4,y5,H15⟩;clear Z6 QM)) | (go_at_call 23;first | (refine(WU.out w12 ea eb WX.out).mono ?_;rintro e w13 ⟨rfl,YJ⟩;clear WU WX y1 y2) | (refine(ZS.out w13 ea eb YJ.out).mono ?_;rintro e w14 ⟨rfl,QM⟩;clear ZS YJ)) | (go_at_call 29;first | (refine(ZR.out w14 ea eb QM.out).mono ?_;rintro e w9 ⟨rfl,rfl⟩;clear ZR) | (refine(ZW.out _ ea eb QM.out).mono ?_;rintro e w9 ⟨rfl,rfl⟩;clear ZW)))
        go_ret
        exact⟨rfl,H15.out⟩
      · have cA:¬n=ej:=by rw[RO];exact fun h=>yx (we.2 h)
        have Bc:((n:Int)==(ej:Int))=false:=by simp;omega
        rw[if_neg yx]at Pw
        clear yx uk qn we PE BJ RO Y8 YL Xy hS1 ZT hXL HP3 LP VK HNQ UP MJ Sq SD Sb vv HCV dZ
        go_wp2_with (first | (go_at_call 30;first | (refine Pw.out.mono ?_;rintro e w11 ⟨ea,rfl,XD⟩;clear Pw) | (refine(QX.out w11 ea XD.out).mono ?_;rintro e w12 ⟨eb,rfl,y1,y2,WX⟩;clear QX XD) | (refine(Z6.out _ _ _ QM.out).mono ?_;rintro e w15 ⟨rfl,y3,y4,y5,H15⟩;clear Z6 QM)) | (go_at_call 23;first | (refine(WU.out w12 ea eb WX.out).mono ?_;rintro e w13 ⟨rfl,YJ⟩;clear WU WX y1 y2) | (refine(ZS.out w13 ea eb YJ.out).mono ?_;rintro e w14 ⟨rfl,QM⟩;clear ZS YJ)) | (go_at_call 29;first | (refine(ZR.out w14 ea eb QM.out).mono ?_;rintro e w9 ⟨rfl,rfl⟩;clear ZR) | (refine(ZW.out _ ea eb QM.out).mono ?_;rintro e w9 ⟨rfl,rfl⟩;clear ZW)))
        go_ret
        exact⟨rfl,H15.out⟩
end
end Go.Proofs.YtdmicblafmhflaaGreatDoor

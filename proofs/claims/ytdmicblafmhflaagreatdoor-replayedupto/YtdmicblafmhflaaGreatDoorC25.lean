/- Package follow: hold, walked. -/
import Derived.Test.YtdmicblafmhflaaGreatDoorC24
set_option linter.unusedSimpArgs false
set_option linter.unusedVariables false
set_option maxHeartbeats 4000000
set_option maxRecDepth 100000
namespace Go.Proofs.YtdmicblafmhflaaGreatDoor
section
open Go.RowKit Go.Maps Go.WideMaps Go.WideElems
open Go.Sort (grow)
theorem zH{α:Type}[DecidableEq α](P l:List α)(h:l.Nodup)(hm:∀x,x∈l→x∈P):l.length≤P.length:=Ax.yg P l h hm
theorem AL{w:World}{sb mb:Nat}{rv:Value}{fd:Option Addr}{fc:Nat}{T:List HT}{s:En.dB En.cl}(h:mM w sb mb rv fd fc T s){t:HT}(ht:t∈T):t.L.length≤s.found.length:=by
 have C6:(t.L.map fun r=>((t.nm,r):En.cl)).Nodup:=by
  have:=(h.b7 t ht).o7.ord.nodup
  exact List.Pairwise.map _ (fun x y cA e=>cA (by simpa using e)) this
 have:=zH s.found _ C6 (fun x hx=>by
  obtain⟨r,hr,rfl⟩:=List.mem_map.1 hx
  exact(h.rows t ht r).1 hr)
 simpa using this
theorem AH{w:World}{sb mb:Nat}{rv:Value}{fd:Option Addr}{fc:Nat}{T:List HT}{s:En.dB En.cl}(h:mM w sb mb rv fd fc T s){t:HT}(ht:t∈T)(r:List ByteArray):Tb.mg t.L r=true↔(t.nm,r)∈s.found:=by
 rw[Tb.dY]
 exact h.rows t ht r
theorem MF{s:En.dB En.cl}{f:En.cl}{n:Nat}(h:f∈s.found):(En.hold s f n).found=s.found:=by
 unfold En.hold
 exact if_pos h
theorem OD{s:En.dB En.cl}{f:En.cl}{n:Nat}(h:¬f∈s.found):(En.hold s f n).found=s.found++[f]:=by
 unfold En.hold
 exact if_neg h
theorem AR(w:World)(sb mb:Nat)(rv:Value)(fd:Option Addr)(fc:Nat)(A B:List HT)(t:HT)(s:En.dB En.cl)(h:mM w sb mb rv fd fc (A++t::B) s)(a b c:ByteArray)(n:Nat)(hn:n≤1000)(hF:s.found.length≤999990)(hC:∀f,s.count f≤1000000000000):
 Calls Tryz.prog 187 #[.pointer (some ⟨sb,0,none⟩),.agg #[.string t.nm,.string a,.string b,.string c],.int .i64 n] w fun e w'=>e=.returned (.tuple #[])∧iy w w' sb mb rv fd fc (A++t::B) s (En.hold s (t.nm,[a,b,c]) n):=by
 have EY:t∈A++t::B:=by simp
 have hLs:=AL h EY
 obtain⟨w0,cZ⟩:∃w0,w0=w.alloc (.cells #[.string t.nm,.string a,.string b,.string c] 325):=⟨_,rfl⟩
 have bL:Below w.heap.size w w0:=by rw[cZ];exact(Below.refl _ _).alloc (Nat.le_refl _) _
 have nA:w0.heap[w.heap.size]?=some (.cells #[.string t.nm,.string a,.string b,.string c] 325 (0,0)):=by rw[cZ];exact heap_alloc_new w _
 have E4:w0.heap.size=w.heap.size+1:=by rw[cZ];simp
 have h0:=h.below bL
 have x0:w0.cell? ⟨w.heap.size,0,none⟩=some (.string t.nm):=by rw[cell_of_row _ _ 0 _ _ _ nA];rfl
 have x1:w0.cell? ⟨w.heap.size,1,none⟩=some (.string a):=by rw[cell_of_row _ _ 1 _ _ _ nA];rfl
 have x2:w0.cell? ⟨w.heap.size,2,none⟩=some (.string b):=by rw[cell_of_row _ _ 2 _ _ _ nA];rfl
 have x3:w0.cell? ⟨w.heap.size,3,none⟩=some (.string c):=by rw[cell_of_row _ _ 3 _ _ _ nA];rfl
 have s1:w0.cell? ⟨sb,1,none⟩=some (.map (some mb)):=by rw[cell_of_row _ _ 1 _ _ _ h0.cU];rfl
 have ack:sb<w0.heap.size:=lt_of_heap h0.cU
 have nU:∀W:World,W.heap=w0.heap→(Instr.lookup 103 (.map (some mb)) (.string t.nm) false).run Tryz.prog W=.ok (.pointer (some ⟨t.g,0,none⟩)) W:=by
  intro W hW
  have hm:ks W mb ((A++t::B).map HT.pk):=by
   obtain⟨q1,q2,⟨es,ck,q3,q4⟩,q5,q6⟩:=h0.map.has
   exact⟨q1,q2,⟨es,ck,by rw[hW];exact q3,q4⟩,q5,q6⟩
  exact hm.look (rF h.names EY) (h.short t EY) Tryz.underlying103 (Tryz.BJ W)
 have LK:=nU w0.drew rfl
 have hH:∀W:World,W.heap=w0.heap→Below w0.heap.size w0 W→Calls Tryz.prog 230 #[.pointer (some ⟨t.g,0,none⟩),.agg #[.string a,.string b,.string c],.int .i64 n] W fun e w1=>e=.returned (.bool (!Tb.mg t.L [a,b,c]))∧∃t',MN w1 sb mb rv fd fc (A++t'::B) s.found (En.hold s (t.nm,[a,b,c]) n)∧Kb t.bZ w w1∧(∀q,q∈t'.bZ→q∈t.bZ∨w.heap.size≤q)∧t'.key=t.key∧w1.heap[w.heap.size]?=some (.cells #[.string t.nm,.string a,.string b,.string c] 325 (0,0)):=by
  intro W hW qL
  have hWb:Below w.heap.size w W:=bL.trans (qL.mono bL.size)
  have dD:=(h.b7 t EY).below hWb
  refine(MZ W t.g t.nm t.pl t.rd t.rc t.cd t.cc t.L t.C a b c n dD (by omega) hn ?_).mono ?_
  · intro x hx
    rw[h.vx t EY]at hx
    obtain⟨r,_,rfl⟩:=List.mem_map.1 hx
    exact hC _
  · rintro e w1 ⟨rd',rc',cd',cc',rfl,q1,q2,q3,q4⟩
    obtain⟨m1,m2,m3⟩:=h.mid hWb (r:=[a,b,c]) (n:=n) rfl (rd':=rd') (rc':=rc') (cd':=cd') (cc':=cc') q1 q2 q3 q4
    refine⟨rfl,_,m1,m2,m3,rfl, ?_⟩
    refine q2.heap (by rw[hW];exact nA) ?_
    intro hc
    have:=HT.ok.lt (h.b7 t EY) hc
    omega
 clear nU
 by_cases dN:(t.nm,[a,b,c])∈s.found
 · have Mj:Tb.mg t.L [a,b,c]=true:=(AH h EY _).2 dN
   have Vs:Hid ((En.hold s (t.nm,[a,b,c]) n).found=s.found):=MF dN
   rw[Mj]at hH
   have H:Hid (mM w sb mb rv fd fc (A++t::B) s):=h
   clear dN Mj h h0 nA
   go_enter Tryz.func187,Tryz.ntmps187
   go_wp2_with fail
   rw[←cZ]
   clear cZ
   go_region_with (go_at_call 230;refine(hH _ (by rfl) (by exact(Below.refl _ _).drew)).mono ?_;rintro e w1 ⟨rfl,t',m1,m2,m3,m4,m5⟩)
   all_goals
    (have dU:=Rv Vs.out H.out m1 m2 m3 m4
     clear m1 m2 m3 m4 m5 hH LK x0 x1 x2 x3 s1
     go_wp2_with fail
     go_end0
     exact⟨rfl,dU⟩)
 · have Mj:Tb.mg t.L [a,b,c]=false:=by
    rw[Bool.eq_false_iff]
    exact fun e=>dN ((AH h EY _).1 e)
   have Vs:Hid ((En.hold s (t.nm,[a,b,c]) n).found=s.found++[(t.nm,[a,b,c])]):=OD dN
   rw[Mj]at hH
   have H:Hid (mM w sb mb rv fd fc (A++t::B) s):=h
   obtain⟨i0,jy,ew,dZ,dX⟩:=info_parts Tryz.NR
   have HI:Hid (Tryz.prog.info? 325=some i0):=jy
   have H0:Hid (i0.zero=some (.agg #[.string ByteArray.empty,.string ByteArray.empty,.string ByteArray.empty,.string ByteArray.empty])):=ew
   have H1:Hid (i0.size=4):=dZ
   have H2:Hid (i0.bytes=64):=dX
   clear dN Mj h h0 nA jy ew dZ dX
   go_enter Tryz.func187,Tryz.ntmps187
   go_wp2_with fail
   rw[←cZ]
   clear cZ
   go_upto_region 1 with fail
   go_cut [16]from 6 (fun bv wx=>bv=.bool true∧∃t',MN wx sb mb rv fd fc (A++t'::B) s.found (En.hold s (t.nm,[a,b,c]) n)∧Kb t.bZ w wx∧(∀q,q∈t'.bZ→q∈t.bZ∨w.heap.size≤q)∧t'.key=t.key∧wx.heap[w.heap.size]?=some (.cells #[.string t.nm,.string a,.string b,.string c] 325 (0,0)))
   case first=>
    go_region_with (go_at_call 230;refine(hH _ (by rfl) (by exact(Below.refl _ _).drew)).mono ?_;rintro e w1 ⟨rfl,um⟩)
    all_goals (go_wp2_with fail;go_meet;exact⟨rfl,um⟩)
   case rest=>
    obtain⟨rfl,t',m1,m2,m3,m4,m5⟩:=hcut
    have y0:wc.cell? ⟨w.heap.size,0,none⟩=some (.string t.nm):=by rw[cell_of_row _ _ 0 _ _ _ m5];rfl
    have y1:wc.cell? ⟨w.heap.size,1,none⟩=some (.string a):=by rw[cell_of_row _ _ 1 _ _ _ m5];rfl
    have y2:wc.cell? ⟨w.heap.size,2,none⟩=some (.string b):=by rw[cell_of_row _ _ 2 _ _ _ m5];rfl
    have y3:wc.cell? ⟨w.heap.size,3,none⟩=some (.string c):=by rw[cell_of_row _ _ 3 _ _ _ m5];rfl
    have z2:wc.cell? ⟨sb,2,none⟩=some (.slice fd s.found.length fc):=by rw[cell_of_row _ _ 2 _ _ _ m1.cU];rfl
    have WN:sb<wc.heap.size:=lt_of_heap m1.cU
    have ahD:w.heap.size<wc.heap.size:=lt_of_heap m5
    have PA:=m1.Bh
    have dU:∀W w2:World,Below wc.heap.size wc W→∀g cap,w2.ownsRow 0 325 4 (.slice (some ⟨g,0,none⟩) (s.found.length+1) cap) (s.found.length+1) (cq s.found++[.string t.nm,.string a,.string b,.string c])→W.grownBy w2 (Value.ownBlock (.slice fd s.found.length fc))→cw W (.slice fd s.found.length fc) (.slice (some ⟨g,0,none⟩) (s.found.length+1) cap)→
     (∀q:Nat,Value.ownBlock (.slice fd s.found.length fc)=some q→(∃cur,w2.heap[q]?=some (.cells cur 325 (0,0)))∧∀j,j<s.found.length*4→w2.cell? ⟨q,j,none⟩=W.cell? ⟨q,j,none⟩)→iy w (w2.setCell ⟨sb,2,none⟩ (.slice (some ⟨g,0,none⟩) (s.found.length+1) cap)) sb mb rv fd fc (A++t::B) s (En.hold s (t.nm,[a,b,c]) n)∧(∃v,w2.cell? ⟨sb,2,none⟩=some v)∧w2.frozen? ⟨sb,2,none⟩=false:=by
     intro W w2 hW g cap e1 e2 e3 e4
     refine⟨RX Vs.out H.out m1 m2 m3 m4 hW e1 e2 e3 e4, ?_⟩
     have cM:w2.heap[sb]?=some (.cells #[rv,.map (some mb),.slice fd s.found.length fc] 322 (0,0)):=by
      rw[e2.block sb (Nat.lt_of_lt_of_le WN hW.size) ?_,hW.block _ WN]
      · exact m1.cU
      · intro hc
        obtain⟨cur,e⟩:=aH m1.Bh hc.symm
        rw[m1.cU]at e
        cases e
     exact⟨⟨_,by rw[cell_of_row _ _ 2 _ _ _ cM];rfl⟩,by simp[World.frozen?,cM]⟩
    clear m1 m2 m3 m4 m5 hH LK x0 x1 x2 x3 s1
    go_upto_region 2 with fail
    go_region_law (refine tW _ rfl (.tmp 21) (.tmp 23) 320 rfl 0 325 i0 _ 4 64 Tryz.underlying320 HI.out H0.out H1.out H2.out rfl (by decide) (.slice fd s.found.length fc) s.found.length (cq s.found) (by simp[Act.eval,Act.put]) (by exact PA.alloc _) ⟨wc.heap.size,0,none⟩ 1 1 [.string t.nm,.string a,.string b,.string c] (by simp[Act.eval,Act.put]) rfl (by exact World.news_of_block (heap_alloc_new _ _)) (by simp[Value.oneCell']) (by decide) (by unfold maxLen;omega) (by omega) (by simp) ?_;intro g2 mm w2 e1 e2 e3 e4;obtain⟨nW,⟨v2,yW⟩,ahc⟩:=dU _ w2 (((Below.refl _ _).alloc (Nat.le_refl _) _).drew) g2 mm e1 e2 e3 e4)
    all_goals (first | (go_end0;exact⟨rfl,nW⟩) | (go_wp2_with fail;go_end0;exact⟨rfl,nW⟩))
end
/- Package follow: conclude. -/
section
open Go.RowKit Go.Maps Go.WideMaps Go.WideElems
open Go.Sort (grow)
structure Tp(a:Ax.Atom):Prop where
 three:a.ag.length≤3
 kinds:∀t,t∈a.ag→t.kind=0∨t.kind=1
theorem iy.pre{w w1 w':World}{sb mb:Nat}{rv:Value}{fd:Option Addr}{fc:Nat}{T:List HT}{s s':En.dB En.cl}(h:iy w1 w' sb mb rv fd fc T s s')(hb:Below w.heap.size w w1)(h0:mM w sb mb rv fd fc T s):iy w w' sb mb rv fd fc T s s' where
 on:=by
  obtain⟨OE,Oj,T',a,b,c⟩:=h.on
  refine⟨OE,Oj,T',a,b,fun x hx=> ?_⟩
  rcases c x hx with e | e
  · exact .inl e
  · exact .inr (Nat.le_trans hb.size e)
 kept:=(Kb.bF hb _).trans h.kept
 cells:=by
  intro b fm
  obtain⟨cur,e⟩:=aH h0.Bh fm
  obtain⟨t1,c1⟩:=h.cells b fm
  exact⟨t1,fun j hj=>(c1 j hj).trans (hb.cell (lt_of_heap e))⟩
theorem D0{b:En.Bind}{a:Ax.Atom}(h:a.ag.length≤3):∃x y z,En.du (En.val b) a=(a.pred,[x,y,z])∧kZ a.pred (fk (Jz a.ag (En.val b)) a.ag.length)=#[.string a.pred,.string x,.string y,.string z]:=by
 obtain⟨x,y,z,e⟩:=I8 (l:=a.ag.map (En.dK (En.val b))) (by simpa using h)
 refine⟨x,y,z,by unfold En.du;rw[e], ?_⟩
 rw[N8 _ _ _ h,e]
 rfl
theorem sE(w:World)(sb mb:Nat)(rv:Value)(fd:Option Addr)(fc:Nat)(A B:List HT)(t:HT)(s:En.dB En.cl)(h:mM w sb mb rv fd fc (A++t::B) s)(hF:s.found.length≤999990)(hC:∀f,s.count f≤1000000000000)
 (a:Ax.Atom)(ad:Option Addr)(ac:Nat)(bv:Value)(ha:MA.ok w (a,.slice ad a.ag.length ac))(dD:Tp a)(hp:a.pred=t.nm)(b:En.Bind)(n:Nat)(X Y:Nat→ByteArray)(hb:BZ b n X Y)(bd:Option Addr)(bm bc:Nat)(hbv:bv=.slice bd bm bc):
 Calls Tryz.prog 231 #[.pointer (some ⟨sb,0,none⟩),.agg #[.int .i64 a.at_,.string a.pred,.slice ad a.ag.length ac,bv],.agg (cI n X Y)] w fun e w'=>e=.returned (.tuple #[])∧iy w w' sb mb rv fd fc (A++t::B) s (En.hold s (En.du (En.val b) a) 1):=by
 subst hbv
 obtain⟨x,y,z,e1,e2⟩:=D0 (b:=b) dD.three
 rw[e1,hp]
 have Pg:Hid (∀W:World,Below w.heap.size w W→∀g,W.heap[g]?=some (.cells (cI n X Y) 369 (0,0))→Calls Tryz.prog 265 #[.pointer (some ⟨g,0,none⟩),.agg #[.int .i64 a.at_,.string t.nm,.slice ad a.ag.length ac]] W fun e w'=>e=.returned (.agg #[.string t.nm,.string x,.string y,.string z])∧Below W.heap.size W w'):=by
  intro W hW g hg
  have Sm:=NT W g n X Y b hb hg a ad ac (ae ha hW) dD.kinds dD.three
  rw[hp]at Sm
  refine Sm.mono ?_
  rintro e w' ⟨h1,rfl⟩
  rw[←hp,e2]
  exact⟨rfl,h1⟩
 have hho:Hid (∀W:World,Below w.heap.size w W→Calls Tryz.prog 187 #[.pointer (some ⟨sb,0,none⟩),.agg #[.string t.nm,.string x,.string y,.string z],.int .i64 1] W fun e w'=>e=.returned (.tuple #[])∧iy w w' sb mb rv fd fc (A++t::B) s (En.hold s (t.nm,[x,y,z]) 1)):=by
  intro W hW
  refine(AR W sb mb rv fd fc A B t s (h.below hW) x y z 1 (by decide) hF hC).mono ?_
  rintro e w' ⟨rfl,h1⟩
  exact⟨rfl,h1.pre hW h⟩
 clear e1 e2 ha dD hb h hp
 have Nr:Hid (∀W:World,W.heap=((w.alloc (.cells #[.int .i64 a.at_,.string t.nm,.slice ad a.ag.length ac,.slice bd bm bc] 222)).alloc (.cells (cI n X Y) 369)).heap→W.heap[w.heap.size+1]?=some (.cells (cI n X Y) 369 (0,0))):=fun W hW=>by rw[hW];exact qv w _ _
 have aU:Hid (Below w.heap.size w ((w.alloc (.cells #[.int .i64 a.at_,.string t.nm,.slice ad a.ag.length ac,.slice bd bm bc] 222)).alloc (.cells (cI n X Y) 369))):=((Below.refl _ _).alloc (Nat.le_refl _) _).alloc (by simp) _
 go_enter Tryz.func231,Tryz.ntmps231
 go_wp2_with (first | (go_at_call 265;refine(Pg.out _ (by exact aU.out) _ (by exact Nr.out _ rfl)).mono ?_;rintro e w1 ⟨rfl,a8⟩) | (go_at_call 187;refine(hho.out _ (by exact aU.out.trans (a8.mono aU.out.size))).mono ?_;rintro e w2 ⟨rfl,jE⟩))
 go_end0
 exact⟨rfl,jE⟩
end
/- Package follow: join. -/
section
open Go.RowKit Go.Maps Go.WideMaps Go.WideElems
open Go.Sort (grow)
theorem TF(w:World)(b0:En.Bind)(n0:Nat)(X0 Y0:Nat→ByteArray)(bL:BZ b0 n0 X0 Y0)(a:Ax.Atom)(ad:Option Addr)(ac:Nat)(pr x y z:ByteArray)
 (ha:MA.ok w (a,.slice ad a.ag.length ac))(dD:Tp a)(hn:n0+a.ag.length≤6):
 Calls Tryz.prog 266 #[.agg (cI n0 X0 Y0),.agg #[.int .i64 a.at_,.string a.pred,.slice ad a.ag.length ac],.agg #[.string pr,.string x,.string y,.string z]] w fun e w'=>∃n1 X1 Y1 ok,e=.returned (.tuple #[.agg (cI n1 X1 Y1),.bool ok])∧Below w.heap.size w w'∧
  Hid ((ok=false∧En.dh a (pr,[x,y,z]) b0=none)∨(ok=true∧∃b1,En.dh a (pr,[x,y,z]) b0=some b1∧BZ b1 n1 X1 Y1∧n1≤n0+a.ag.length)):=by
 refine(Lh w b0 n0 X0 Y0 bL a ad ac pr x y z ha dD.kinds dD.three hn).mono ?_
 rintro e w' ⟨h1,⟨h2,rfl⟩ | ⟨b1,n1,X1,Y1,h2,h3,h4,rfl⟩⟩
 · exact⟨_,_,_,_,rfl,h1,.inl ⟨rfl,h2⟩⟩
 · exact⟨_,_,_,_,rfl,h1,.inr ⟨rfl,b1,h2,h3,h4⟩⟩
theorem I9{l:List En.cl}(h:TT l){k:Nat}(hk:k<l.length){p a b c:ByteArray}(e:l[k]=(p,[a,b,c])):
 (cq l)[k*4]?=some (.string p)∧(cq l)[k*4+1]?=some (.string a)∧(cq l)[k*4+2]?=some (.string b)∧(cq l)[k*4+3]?=some (.string c):=by
 induction l generalizing k with
 | nil=>simp at hk
 | cons f l ih=>
  have hl:(qz f).length=4:=by simp[qz,h f (by simp)]
  have tU:∀j,(cq (f::l))[j+4]?=(cq l)[j]?:=by
   intro j
   have:cq (f::l)=qz f++cq l:=by simp[cq]
   rw[this,List.getElem?_append_right (by omega)]
   congr 1
   omega
  cases k with
  | zero=>
   simp only[List.getElem_cons_zero]at e
   subst e
   simp[cq,qz]
  | succ k=>
   have:=ih (fun x hx=>h x (by simp[hx])) (k:=k) (by simpa using hk) (by simpa using e)
   rw[show(k+1)*4=k*4+4 by omega,show k*4+4+1=k*4+1+4 by omega,show k*4+4+2=k*4+2+4 by omega,show k*4+4+3=k*4+3+4 by omega,tU,tU,tU,tU]
   exact this
structure tZ(w:World)(a:Ax.Atom)(ad:Option Addr)(ac:Nat)(bd:Option Addr)(bc:Nat)(body:List MA):Prop where
 mr:MR.ok w ⟨(a,.slice ad a.ag.length ac),.slice bd body.length bc,body⟩
 head:Tp a
 atoms:∀x,x∈body→Tp x.1
 two:body.length≤2
theorem tZ.below{w w':World}{a:Ax.Atom}{ad:Option Addr}{ac:Nat}{bd:Option Addr}{bc:Nat}{body:List MA}(h:tZ w a ad ac bd bc body)(hb:Below w.heap.size w w'):tZ w' a ad ac bd bc body:=⟨MR.below h.mr hb,h.head,h.atoms,h.two⟩
theorem MA.Hv{w w':World}{S:List Nat}{x:MA}(h:MA.ok w x)(hk:Kb S w w')(hS:∀b cur,b∈S→w.heap[b]?=some (.cells cur 310 (0,0))→False):MA.ok w' x:=by
 refine hk.row h ?_
 intro b hb hm
 obtain⟨cur,e⟩:=aH h hb
 exact hS b cur hm e
theorem tZ.search{w w':World}{sb mb:Nat}{rv:Value}{fd:Option Addr}{fc:Nat}{T:List HT}{s s':En.dB En.cl}{a:Ax.Atom}{ad:Option Addr}{ac:Nat}{bd:Option Addr}{bc:Nat}{body:List MA}(h:tZ w a ad ac bd bc body)(h0:mM w sb mb rv fd fc T s)(hs:iy w w' sb mb rv fd fc T s s'):tZ w' a ad ac bd bc body:=by
 have iM:∀b cur U,b∈dA sb fd fc s.found.length T→w.heap[b]?=some (.cells cur U (0,0))→U=322∨U=325∨U=117∨U=119∨U=3:=by
  intro b cur U hb e
  obtain⟨jX,U',e',hU⟩:=lD h0 hb
  rw[e]at e'
  simp only[Option.some.injEq,Obj.cells.injEq]at e'
  rw[e'.2.1]
  exact hU
 have hT:∀b cur,b∈dA sb fd fc s.found.length T→w.heap[b]?=some (.cells cur 310 (0,0))→False:=by
  intro b cur hb e
  have:=iM b cur _ hb e
  rcases this with e | e | e | e | e<;>cases e
 refine⟨⟨MA.Hv h.mr.1 hs.kept hT,hs.kept.row h.mr.2.1 ?_,fun x hx=>MA.Hv (h.mr.2.2 x hx) hs.kept hT⟩,h.head,h.atoms,h.two⟩
 intro b hb hm
 obtain⟨cur,e⟩:=aH h.mr.2.1 hb
 have:=iM b cur _ hm e
 rcases this with e | e | e | e | e<;>cases e
theorem mP{T:List HT}{p:ByteArray}(h:p∈T.map HT.nm):∃A t B,T=A++t::B∧p=t.nm:=by
 obtain⟨t,ht,rfl⟩:=List.mem_map.1 h
 obtain⟨A,B,e⟩:=List.append_of_mem ht
 exact⟨A,t,B,e,rfl⟩
theorem j6{T T':List HT}(h:T'.map HT.key=T.map HT.key):T'.map HT.nm=T.map HT.nm:=by
 have e:∀l:List HT,l.map HT.nm=(l.map HT.key).map Prod.fst:=fun l=>by rw[List.map_map];rfl
 rw[e,e,h]
theorem Im(w:World)(o1 o2:Obj):Below w.heap.size w ((w.alloc o1).alloc o2)∧((w.alloc o1).alloc o2).heap.size=w.heap.size+2∧((w.alloc o1).alloc o2).heap[w.heap.size]?=some o1∧((w.alloc o1).alloc o2).heap[w.heap.size+1]?=some o2:=by
 refine⟨((Below.refl _ _).alloc (Nat.le_refl _) _).alloc (by simp) _,by simp, ?_,qv w _ _⟩
 rw[Below.heap_alloc _ _ _ (by simp)]
 exact heap_alloc_new w _
theorem OG(w:World)(sb mb:Nat)(rv:Value)(fd:Option Addr)(fc:Nat)(T:List HT)(s:En.dB En.cl)(h:mM w sb mb rv fd fc T s)(hF:s.found.length≤999990)(hC:∀f,s.count f≤1000000000000)
 (a:Ax.Atom)(ad:Option Addr)(ac:Nat)(bd:Option Addr)(bc:Nat)(body:List MA)(hr:tZ w a ad ac bd bc body)(hp:a.pred∈T.map HT.nm)(b:En.Bind)(n:Nat)(X Y:Nat→ByteArray)(hb:BZ b n X Y)(turn aX:Nat):
 Calls Tryz.prog 232 #[.pointer (some ⟨sb,0,none⟩),.agg #[.int .i64 a.at_,.string a.pred,.slice ad a.ag.length ac,.slice bd body.length bc],.int .i64 body.length,.int .i64 turn,.int .i64 aX,.agg (cI n X Y)] w fun e w'=>e=.returned (.tuple #[])∧iy w w' sb mb rv fd fc T s (En.hold s (En.du (En.val b) a) 1):=by
 obtain⟨A,t,B,rfl,PZ⟩:=mP hp
 have vD:Hid (∀W:World,Below w.heap.size w W→Calls Tryz.prog 231 #[.pointer (some ⟨sb,0,none⟩),.agg #[.int .i64 a.at_,.string a.pred,.slice ad a.ag.length ac,.slice bd body.length bc],.agg (cI n X Y)] W fun e w'=>e=.returned (.tuple #[])∧iy w w' sb mb rv fd fc (A++t::B) s (En.hold s (En.du (En.val b) a) 1)):=by
  intro W hW
  refine(sE W sb mb rv fd fc A B t s (h.below hW) hF hC a ad ac _ (hr.below hW).mr.1 hr.head PZ b n X Y hb bd body.length bc rfl).mono ?_
  rintro e w' ⟨rfl,h1⟩
  exact⟨rfl,h1.pre hW h⟩
 generalize En.hold s (En.du (En.val b) a) 1=s' at vD ⊢
 clear h hr hp hb hF hC PZ
 go_enter Tryz.func232,Tryz.ntmps232
 go_upto_region 1 with fail
 obtain⟨jb,js,jr,jx⟩:=Im w (.cells #[.int .i64 a.at_,.string a.pred,.slice ad a.ag.length ac,.slice bd body.length bc] 222) (.cells (cI n X Y) 369)
 generalize (w.alloc (.cells #[.int .i64 a.at_,.string a.pred,.slice ad a.ag.length ac,.slice bd body.length bc] 222)).alloc (.cells (cI n X Y) 369)=w0 at jb js jr jx ⊢
 have WB:Hid (Below w.heap.size w w0):=jb
 have IV:w.heap.size<w0.heap.size:=by omega
 have YD:w.heap.size+1<w0.heap.size:=by omega
 have r0:w0.cell? ⟨w.heap.size,0,none⟩=some (.int .i64 a.at_):=by rw[cell_of_row _ _ _ _ _ _ jr];rfl
 have r1:w0.cell? ⟨w.heap.size,1,none⟩=some (.string a.pred):=by rw[cell_of_row _ _ _ _ _ _ jr];rfl
 have r2:w0.cell? ⟨w.heap.size,2,none⟩=some (.slice ad a.ag.length ac):=by rw[cell_of_row _ _ _ _ _ _ jr];rfl
 have r3:w0.cell? ⟨w.heap.size,3,none⟩=some (.slice bd body.length bc):=by rw[cell_of_row _ _ _ _ _ _ jr];rfl
 have q0:w0.cell? ⟨w.heap.size+1,0,none⟩=some (.int .i64 n):=by rw[cell_of_row _ _ _ _ _ _ jx];rfl
 have q1:w0.cell? ⟨w.heap.size+1,1,none⟩=some (.string (X 0)):=by rw[cell_of_row _ _ _ _ _ _ jx];rfl
 have q2:w0.cell? ⟨w.heap.size+1,2,none⟩=some (.string (Y 0)):=by rw[cell_of_row _ _ _ _ _ _ jx];rfl
 have q3:w0.cell? ⟨w.heap.size+1,3,none⟩=some (.string (X 1)):=by rw[cell_of_row _ _ _ _ _ _ jx];rfl
 have q4:w0.cell? ⟨w.heap.size+1,4,none⟩=some (.string (Y 1)):=by rw[cell_of_row _ _ _ _ _ _ jx];rfl
 have q5:w0.cell? ⟨w.heap.size+1,5,none⟩=some (.string (X 2)):=by rw[cell_of_row _ _ _ _ _ _ jx];rfl
 have q6:w0.cell? ⟨w.heap.size+1,6,none⟩=some (.string (Y 2)):=by rw[cell_of_row _ _ _ _ _ _ jx];rfl
 have q7:w0.cell? ⟨w.heap.size+1,7,none⟩=some (.string (X 3)):=by rw[cell_of_row _ _ _ _ _ _ jx];rfl
 have q8:w0.cell? ⟨w.heap.size+1,8,none⟩=some (.string (Y 3)):=by rw[cell_of_row _ _ _ _ _ _ jx];rfl
 have q9:w0.cell? ⟨w.heap.size+1,9,none⟩=some (.string (X 4)):=by rw[cell_of_row _ _ _ _ _ _ jx];rfl
 have V3:w0.cell? ⟨w.heap.size+1,10,none⟩=some (.string (Y 4)):=by rw[cell_of_row _ _ _ _ _ _ jx];rfl
 have Wm:w0.cell? ⟨w.heap.size+1,11,none⟩=some (.string (X 5)):=by rw[cell_of_row _ _ _ _ _ _ jx];rfl
 have WC:w0.cell? ⟨w.heap.size+1,12,none⟩=some (.string (Y 5)):=by rw[cell_of_row _ _ _ _ _ _ jx];rfl
 clear jb jr jx
 have Bq:cI n X Y=#[.int .i64 n,.string (X 0),.string (Y 0),.string (X 1),.string (Y 1),.string (X 2),.string (Y 2),.string (X 3),.string (Y 3),.string (X 4),.string (Y 4),.string (X 5),.string (Y 5)]:=rfl
 rw[Bq]at vD
 clear Bq
 go_wp2_with (first | (go_at_call 231;refine(vD.out _ (by exact WB.out)).mono ?_;rintro e w2 ⟨rfl,jE⟩))
 exact bodyPost_ret (v:=.tuple #[]) (by simp[results,Tryz.results232,go_sem]) rfl ⟨rfl,jE⟩
end
end Go.Proofs.YtdmicblafmhflaaGreatDoor

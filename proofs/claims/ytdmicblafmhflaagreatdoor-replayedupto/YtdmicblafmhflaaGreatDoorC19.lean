/- Package follow: match. -/
import Derived.Test.YtdmicblafmhflaaGreatDoorC18
set_option linter.unusedSimpArgs false
set_option linter.unusedVariables false
set_option maxHeartbeats 4000000
set_option maxRecDepth 100000
namespace Go.Proofs.YtdmicblafmhflaaGreatDoor
section
open Go.RowKit
open Go.Sort (grow)
theorem CX{t:Ax.Term}{ts:List Ax.Term}{n:ByteArray}{ns:List ByteArray}{b:En.Bind}:En.fP (t::ts) (n::ns) b=if En.dK (En.val b) t=n then En.fP ts ns b else if En.dK (En.val b) t=En.ee then En.fP ts ns (b++[(t.text,n)])else none:=rfl
theorem IE:En.ee.toList=[]:=by rw[ByteArray.toList_eq];rfl
def Vl(a b c:ByteArray):Nat→ByteArray:=fun i=>if i=0 then a else if i=1 then b else c
theorem YH{a b c:ByteArray}{i:Nat}(h:i<3):[a,b,c].drop i=Vl a b c i::[a,b,c].drop (i+1):=by
 have:i=0∨i=1∨i=2:=by omega
 rcases this with rfl | rfl | rfl<;>rfl
def FC(w:World)(r n:Nat)(X Y:Nat→ByteArray):World:=(((((((((((((w.setCell ⟨r,0,none⟩ (.int .i64 n)).setCell ⟨r,1,none⟩ (.string (X 0))).setCell ⟨r,2,none⟩ (.string (Y 0))).setCell ⟨r,3,none⟩ (.string (X 1))).setCell ⟨r,4,none⟩ (.string (Y 1))).setCell ⟨r,5,none⟩ (.string (X 2))).setCell ⟨r,6,none⟩ (.string (Y 2))).setCell ⟨r,7,none⟩ (.string (X 3))).setCell ⟨r,8,none⟩ (.string (Y 3))).setCell ⟨r,9,none⟩ (.string (X 4))).setCell ⟨r,10,none⟩ (.string (Y 4))).setCell ⟨r,11,none⟩ (.string (X 5))).setCell ⟨r,12,none⟩ (.string (Y 5)))
theorem tB{w:World}{r m n:Nat}{A B X Y:Nat→ByteArray}{T:TypeId}(h:w.heap[r]?=some (.cells (cI m A B) T (0,0))):(FC w r n X Y).heap[r]?=some (.cells (cI n X Y) T (0,0))∧Kb [r] w (FC w r n X Y):=by
 have h0:=an _ h 0 (.int .i64 n)
 have h1:=an _ h0 1 (.string (X 0))
 have h2:=an _ h1 2 (.string (Y 0))
 have h3:=an _ h2 3 (.string (X 1))
 have h4:=an _ h3 4 (.string (Y 1))
 have h5:=an _ h4 5 (.string (X 2))
 have h6:=an _ h5 6 (.string (Y 2))
 have h7:=an _ h6 7 (.string (X 3))
 have h8:=an _ h7 8 (.string (Y 3))
 have h9:=an _ h8 9 (.string (X 4))
 have Wt:=an _ h9 10 (.string (Y 4))
 have Px:=an _ Wt 11 (.string (X 5))
 have VB:=an _ Px 12 (.string (Y 5))
 refine⟨by simpa [FC,cI]using VB, ?_⟩
 exact((((((((((((Kb.setCell w ⟨r,0,none⟩ (.int .i64 (n:Int))).trans (Kb.setCell _ ⟨r,1,none⟩ (.string (X 0)))).trans (Kb.setCell _ ⟨r,2,none⟩ (.string (Y 0)))).trans (Kb.setCell _ ⟨r,3,none⟩ (.string (X 1)))).trans (Kb.setCell _ ⟨r,4,none⟩ (.string (Y 1)))).trans (Kb.setCell _ ⟨r,5,none⟩ (.string (X 2)))).trans (Kb.setCell _ ⟨r,6,none⟩ (.string (Y 2)))).trans (Kb.setCell _ ⟨r,7,none⟩ (.string (X 3)))).trans (Kb.setCell _ ⟨r,8,none⟩ (.string (Y 3)))).trans (Kb.setCell _ ⟨r,9,none⟩ (.string (X 4)))).trans (Kb.setCell _ ⟨r,10,none⟩ (.string (Y 4)))).trans (Kb.setCell _ ⟨r,11,none⟩ (.string (X 5)))).trans (Kb.setCell _ ⟨r,12,none⟩ (.string (Y 5)))
def Mx(w:World)(R:Option En.Bind)(m:Nat)(e:Ending)(w':World):Prop:=Below w.heap.size w w'∧
 ((R=none∧e=.returned (.tuple #[.agg (cI 0 (fun _=>⟨#[]⟩) (fun _=>⟨#[]⟩)),.bool false]))∨(∃b1 n1 X1 Y1,R=some b1∧BZ b1 n1 X1 Y1∧n1≤m∧e=.returned (.tuple #[.agg (cI n1 X1 Y1),.bool true])))
theorem Mp(w:World)(b0:En.Bind)(n0:Nat)(X0 Y0:Nat→ByteArray)(a:Ax.Atom)(ad:Option Addr)(ac m:Nat)(pr x y z:ByteArray)(hp:¬a.pred=pr):
 Calls Tryz.prog 266 #[.agg (cI n0 X0 Y0),.agg #[.int .i64 a.at_,.string a.pred,.slice ad a.ag.length ac],.agg #[.string pr,.string x,.string y,.string z]] w (Mx w none m):=by
 have vA:(a.pred.toList==pr.toList)=false:=by rw[eC];simp[hp]
 have XT:(a.pred.toList != pr.toList)=true:=by simp[bne,vA]
 clear hp
 unfold cI
 go_enter Tryz.func266,Tryz.ntmps266
 go_wp2_with fail
 exact bodyPost_ret (v:=.tuple #[.agg #[.int .i64 0,.string ⟨#[]⟩,.string ⟨#[]⟩,.string ⟨#[]⟩,.string ⟨#[]⟩,.string ⟨#[]⟩,.string ⟨#[]⟩,.string ⟨#[]⟩,.string ⟨#[]⟩,.string ⟨#[]⟩,.string ⟨#[]⟩,.string ⟨#[]⟩,.string ⟨#[]⟩],.bool false]) (by simp[results,Tryz.results266,go_sem]) rfl ⟨((((Below.refl _ _).alloc (Nat.le_refl _) _).alloc (by simp) _).alloc (by simp;omega) _).alloc (by simp;omega) _,.inl ⟨rfl,rfl⟩⟩
structure MW(w w0:World)(n:Nat)(X Y:Nat→ByteArray)(pr x y z:ByteArray):Prop where
 below:Below w.heap.size w w0
 size:w0.heap.size=w.heap.size+4
 bnd:w0.heap[w.heap.size]?=some (.cells (cI n X Y) 369 (0,0))
 fct:w0.heap[w.heap.size+2]?=some (.cells #[.string pr,.string x,.string y,.string z] 325 (0,0))
 res:w0.heap[w.heap.size+3]?=some (.cells (cI 0 (fun _=>⟨#[]⟩) (fun _=>⟨#[]⟩)) 369 (0,0))
theorem Ru(w:World)(n:Nat)(X Y:Nat→ByteArray)(o:Obj)(pr x y z:ByteArray):MW w ((((w.alloc (.cells (cI n X Y) 369)).alloc o).alloc (.cells #[.string pr,.string x,.string y,.string z] 325)).alloc (.cells (cI 0 (fun _=>⟨#[]⟩) (fun _=>⟨#[]⟩)) 369)) n X Y pr x y z where
 below:=((((Below.refl _ _).alloc (Nat.le_refl _) _).alloc (by simp) _).alloc (by simp;omega) _).alloc (by simp;omega) _
 size:=by simp
 bnd:=by
  rw[Below.heap_alloc _ _ _ (by simp;omega),Below.heap_alloc _ _ _ (by simp;omega),Below.heap_alloc _ _ _ (by simp)]
  exact heap_alloc_new w _
 fct:=by
  rw[Below.heap_alloc _ _ _ (by simp)]
  have:=heap_alloc_new ((w.alloc (.cells (cI n X Y) 369)).alloc o) (.cells #[.string pr,.string x,.string y,.string z] 325)
  simpa using this
 res:=by
  have:=heap_alloc_new (((w.alloc (.cells (cI n X Y) 369)).alloc o).alloc (.cells #[.string pr,.string x,.string y,.string z] 325)) (.cells (cI 0 (fun _=>⟨#[]⟩) (fun _=>⟨#[]⟩)) 369)
  simpa using this
theorem JL(w:World)(b0:En.Bind)(n0:Nat)(X0 Y0:Nat→ByteArray)(bL:BZ b0 n0 X0 Y0)(a:Ax.Atom)(ad:Option Addr)(ac:Nat)(pr x y z:ByteArray)(hp:a.pred=pr)
 (ha:MA.ok w (a,.slice ad a.ag.length ac))(hk:∀t,t∈a.ag→t.kind=0∨t.kind=1)(h3:a.ag.length≤3)(hn:n0+a.ag.length≤6):
 Calls Tryz.prog 266 #[.agg (cI n0 X0 Y0),.agg #[.int .i64 a.at_,.string a.pred,.slice ad a.ag.length ac],.agg #[.string pr,.string x,.string y,.string z]] w (Mx w (En.fP a.ag [x,y,z] b0) (n0+a.ag.length)):=by
 have vA:(a.pred.toList==pr.toList)=true:=by rw[eC];simp[hp]
 have XT:(a.pred.toList != pr.toList)=false:=by simp[bne,vA]
 obtain⟨w0,cZ,hmw⟩:∃w0,w0=((((w.alloc (.cells (cI n0 X0 Y0) 369)).alloc (.cells #[.int .i64 a.at_,.string a.pred,.slice ad a.ag.length ac] 219)).alloc (.cells #[.string pr,.string x,.string y,.string z] 325)).alloc (.cells (cI 0 (fun _=>⟨#[]⟩) (fun _=>⟨#[]⟩)) 369))∧MW w w0 n0 X0 Y0 pr x y z:=⟨_,rfl,Ru w n0 X0 Y0 _ pr x y z⟩
 generalize hR:En.fP a.ag [x,y,z] b0=R
 have HK:Hid (∀t,t∈a.ag→t.kind=0∨t.kind=1):=hk
 unfold MA.ok at ha
 simp only at ha
 have hle:=bh ha
 clear hp hk
 go_enter Tryz.func266,Tryz.ntmps266
 have Bq:∀n X Y,cI n X Y=#[.int .i64 n,.string (X 0),.string (Y 0),.string (X 1),.string (Y 1),.string (X 2),.string (Y 2),.string (X 3),.string (Y 3),.string (X 4),.string (Y 4),.string (X 5),.string (Y 5)]:=fun _ _ _=>rfl
 rw[Bq n0 X0 Y0]
 go_wp2_with fail
 rw[←Bq n0 X0 Y0]
 change Code.wp Tryz.prog _ _ _ ((((w.alloc (.cells (cI n0 X0 Y0) 369)).alloc (.cells #[.int .i64 a.at_,.string a.pred,.slice ad a.ag.length ac] 219)).alloc (.cells #[.string pr,.string x,.string y,.string z] 325)).alloc (.cells (cI 0 (fun _=>⟨#[]⟩) (fun _=>⟨#[]⟩)) 369))
 rw[←cZ]
 clear cZ Bq vA XT
 obtain⟨mb,ms,UW,Ei,CL⟩:=hmw
 go_loopw [19] (fun iv wr=>∃(k n:Nat) (b:En.Bind) (X Y:Nat→ByteArray),k≤a.ag.length∧n≤n0+k∧iv=.int .i64 k∧BZ b n X Y∧wr.heap[w.heap.size]?=some (.cells (cI n X Y) 369 (0,0))∧Kb [w.heap.size] w0 wr∧En.fP (a.ag.drop k) ([x,y,z].drop k) b=R) (fun iv _=>a.ag.length-(intOf iv).toNat)
 case atStart=>exact⟨0,n0,b0,X0,Y0,Nat.zero_le _,Nat.le_refl _,rfl,bL,UW,Kb.refl _ _,by simpa using hR⟩
 case round=>
  obtain⟨k,n,b,X,Y,CB,ZW,rfl,hb,fm,fq,hr⟩:=hrel
  have uf:Hid (En.fP (a.ag.drop k) ([x,y,z].drop k) b=R):=hr
  clear hr hR
  have cE:=fq.size
  have bQ:wr.ownsRow 0 310 2 (.slice ad a.ag.length ac) a.ag.length (cg a.ag):=fq.row (ae ha mb) (fun q hq hm=>by
   simp only[List.mem_singleton]at hm
   have:=(World.ownsRow.lt ha q hq).2
   omega)
  have TO:wr.heap[w.heap.size+1+1]?=some (.cells #[.string pr,.string x,.string y,.string z] 325 (0,0)):=fq.heap Ei (by simp only[List.mem_singleton];omega)
  have fY:wr.heap[w.heap.size+1+1+1]?=some (.cells (cI 0 (fun _=>⟨#[]⟩) (fun _=>⟨#[]⟩)) 369 (0,0)):=fq.heap CL (by simp only[List.mem_singleton];omega)
  have mF:Below w.heap.size w wr:=fq.aK mb (by omega) (fun i hi=>by simp at hi;omega)
  by_cases aE:k<a.ag.length
  · obtain⟨tg,rfl,lX,htc,u4⟩:=aD bQ (by omega)
    obtain⟨y0,y1⟩:=fe a.ag k aE
    have d0:=u4 _ _ y0
    have d1:=u4 _ _ y1
    have Lj:=HK.out _ (List.getElem_mem aE)
    rw[List.drop_eq_getElem_cons aE,YH (by omega),CX]at uf
    generalize a.ag[k]=t at d0 d1 Lj uf
    obtain⟨tk,tt⟩:=t
    simp only at d0 d1
    have f0:wr.cell? ⟨w.heap.size+1+1,1+k,none⟩=some (.string (Vl x y z k)):=by
     rw[cell_of_row _ _ _ _ _ _ TO]
     have:k=0∨k=1∨k=2:=by omega
     rcases this with rfl | rfl | rfl<;>rfl
    have ga:∀W,Below wr.heap.size wr W→Calls Tryz.prog 286 #[.pointer (some ⟨w.heap.size,0,none⟩),.agg #[.int .i64 tk,.string tt]] W fun e w'=>e=.returned (.string (En.dK (En.val b) ⟨tk,tt⟩))∧Below W.heap.size W w':=fun W hW=>CV W w.heap.size n X Y b hb ⟨tk,tt⟩ Lj (by rw[hW.block _ (by omega)];exact fm)
    generalize hv:En.dK (En.val b) ⟨tk,tt⟩=v at ga uf
    generalize ZA:Vl x y z k=nn at f0 uf
    have IV:w.heap.size<wr.heap.size:=by omega
    have Ma:w.heap.size+1+1<wr.heap.size:=by omega
    clear u4 bQ Ei CL UW TO y0 y1 Lj hv ZA
    by_cases heq:v=nn
    · have SS:(v.toList==nn.toList)=true:=by rw[eC];simp[heq]
      rw[if_pos heq]at uf
      clear heq
      go_wp2_with (go_at_call 286;refine(ga _ (by exact(Below.refl _ _).alloc (Nat.le_refl _) _)).mono ?_;rintro e w1 ⟨rfl,a8⟩;have fQ:Below wr.heap.size wr w1:=((Below.refl _ _).alloc (Nat.le_refl _) _).trans (a8.mono (by simp));have f1:w1.cell? ⟨w.heap.size+1+1,1+k,none⟩=some (.string nn):=(fQ.cell Ma).trans f0;have kV:=fQ.size;have Tv:w.heap.size+1+1<w1.heap.size:=(by omega);clear a8 ga)
      go_roundw
      case rel=>
       refine⟨k+1,n,b,X,Y,by omega,by omega,by go_num,hb, ?_,fq.below fQ,uf.out⟩
       rw[fQ.block _ IV]
       exact fm
      case measure=>simp[intOf];omega
    · have SS:(v.toList==nn.toList)=false:=by rw[eC];simp[heq]
      rw[if_neg heq]at uf
      clear heq
      by_cases Ut:v=En.ee
      · have tp:v.toList.isEmpty=true:=by rw[Ut,IE];rfl
        rw[if_pos Ut]at uf
        have HEM:Hid (v=En.ee):=Ut
        clear Ut
        have UT:∀W:World,Below (wr.alloc (.cells #[.int .i64 tk,.string tt] 310)).heap.size (wr.alloc (.cells #[.int .i64 tk,.string tt] 310)) W→W.cell? ⟨wr.heap.size,1,none⟩=some (.string tt):=fun W hW=>by
         have e:W.heap[wr.heap.size]?=some (.cells #[.int .i64 tk,.string tt] 310 (0,0)):=by rw[hW.block _ (by simp)];exact heap_alloc_new wr _
         rw[cell_of_row _ _ 1 _ _ _ e];rfl
        go_upto_region 10 with(go_at_call 286;refine(ga _ (by exact(Below.refl _ _).alloc (Nat.le_refl _) _)).mono ?_;rintro e w1 ⟨rfl,a8⟩;have fQ:Below wr.heap.size wr w1:=((Below.refl _ _).alloc (Nat.le_refl _) _).trans (a8.mono (by simp));have f1:w1.cell? ⟨w.heap.size+1+1,1+k,none⟩=some (.string nn):=(fQ.cell Ma).trans f0;have kV:=fQ.size;have Tv:w.heap.size+1+1<w1.heap.size:=(by omega);have mK:Hid (Below (wr.alloc (.cells #[.int .i64 tk,.string tt] 310)).heap.size (wr.alloc (.cells #[.int .i64 tk,.string tt] 310)) w1):=a8;clear a8 ga)
        have u1:w1.cell? ⟨wr.heap.size,1,none⟩=some (.string tt):=UT w1 mK.out
        have ab4:w1.heap[w.heap.size]?=some (.cells (cI n X Y) 369 (0,0)):=by rw[fQ.block _ IV];exact fm
        have sk:=fun W (hW:W.heap=w1.heap)=>Qi W w.heap.size n X Y tt nn (by omega) (by rw[hW];exact ab4)
        have ag4:wr.heap.size<w1.heap.size:=by have:=mK.out.size;simp at this;omega
        clear mK UT
        go_region_with (go_at_call 287;refine(sk _ (by rfl)).mono ?_;rintro e w2 ⟨rfl,XM,O2⟩)
        all_goals
         (go_wp2_with fail
          go_roundw
          case rel=>
           refine⟨k+1,n+1,_,_,_,by omega,by omega,by go_num,hb.snoc (by omega) tt nn,XM,(fq.below fQ).trans (Kb.Xc O2),uf.out⟩
          case measure=>simp[intOf];omega)
      · have tp:v.toList.isEmpty=false:=by rw[Bool.eq_false_iff];intro hc;rw[List.isEmpty_iff]at hc;exact Ut (Tb.toList_inj (by rw[hc,IE]))
        rw[if_neg Ut]at uf
        clear Ut
        go_upto_region 7 with(go_at_call 286;refine(ga _ (by exact(Below.refl _ _).alloc (Nat.le_refl _) _)).mono ?_;rintro e w1 ⟨rfl,a8⟩;have fQ:Below wr.heap.size wr w1:=((Below.refl _ _).alloc (Nat.le_refl _) _).trans (a8.mono (by simp));have f1:w1.cell? ⟨w.heap.size+1+1,1+k,none⟩=some (.string nn):=(fQ.cell Ma).trans f0;have kV:=fQ.size;have Tv:w.heap.size+1+1<w1.heap.size:=(by omega);clear a8 ga)
        have jO:w1.heap[w.heap.size+1+1+1]?=some (.cells (cI 0 (fun _=>⟨#[]⟩) (fun _=>⟨#[]⟩)) 369 (0,0)):=by rw[fQ.block _ (by omega)];exact fY
        have tJ:Hid (w1.heap[w.heap.size+1+1+1]?=some (.cells (cI 0 (fun _=>⟨#[]⟩) (fun _=>⟨#[]⟩)) 369 (0,0))):=jO
        have r0:w1.cell? ⟨w.heap.size+1+1+1,0,none⟩=some (.int .i64 0):=by rw[cell_of_row _ _ _ _ _ _ jO];rfl
        have r1:w1.cell? ⟨w.heap.size+1+1+1,1,none⟩=some (.string ⟨#[]⟩):=by rw[cell_of_row _ _ _ _ _ _ jO];rfl
        have r2:w1.cell? ⟨w.heap.size+1+1+1,2,none⟩=some (.string ⟨#[]⟩):=by rw[cell_of_row _ _ _ _ _ _ jO];rfl
        have r3:w1.cell? ⟨w.heap.size+1+1+1,3,none⟩=some (.string ⟨#[]⟩):=by rw[cell_of_row _ _ _ _ _ _ jO];rfl
        have r4:w1.cell? ⟨w.heap.size+1+1+1,4,none⟩=some (.string ⟨#[]⟩):=by rw[cell_of_row _ _ _ _ _ _ jO];rfl
        have r5:w1.cell? ⟨w.heap.size+1+1+1,5,none⟩=some (.string ⟨#[]⟩):=by rw[cell_of_row _ _ _ _ _ _ jO];rfl
        have r6:w1.cell? ⟨w.heap.size+1+1+1,6,none⟩=some (.string ⟨#[]⟩):=by rw[cell_of_row _ _ _ _ _ _ jO];rfl
        have r7:w1.cell? ⟨w.heap.size+1+1+1,7,none⟩=some (.string ⟨#[]⟩):=by rw[cell_of_row _ _ _ _ _ _ jO];rfl
        have r8:w1.cell? ⟨w.heap.size+1+1+1,8,none⟩=some (.string ⟨#[]⟩):=by rw[cell_of_row _ _ _ _ _ _ jO];rfl
        have r9:w1.cell? ⟨w.heap.size+1+1+1,9,none⟩=some (.string ⟨#[]⟩):=by rw[cell_of_row _ _ _ _ _ _ jO];rfl
        have r10:w1.cell? ⟨w.heap.size+1+1+1,10,none⟩=some (.string ⟨#[]⟩):=by rw[cell_of_row _ _ _ _ _ _ jO];rfl
        have r11:w1.cell? ⟨w.heap.size+1+1+1,11,none⟩=some (.string ⟨#[]⟩):=by rw[cell_of_row _ _ _ _ _ _ jO];rfl
        have r12:w1.cell? ⟨w.heap.size+1+1+1,12,none⟩=some (.string ⟨#[]⟩):=by rw[cell_of_row _ _ _ _ _ _ jO];rfl
        have rf:∀o,w1.frozen? ⟨w.heap.size+1+1+1,o,none⟩=false:=fun o=>by simp[World.frozen?,jO]
        have acG:w.heap.size+1+1+1<w1.heap.size:=by omega
        have abc:Below w.heap.size w w1:=mF.trans (fQ.mono (by omega))
        clear jO fY
        go_wp2_with fail
        change bodyPost Tryz.prog _ _ _ _ (FC w1 (w.heap.size+1+1+1) 0 (fun _=>⟨#[]⟩) (fun _=>⟨#[]⟩))
        obtain⟨hu,PT⟩:=tB (n:=0) (X:=fun _=>⟨#[]⟩) (Y:=fun _=>⟨#[]⟩) tJ.out
        generalize FC w1 (w.heap.size+1+1+1) 0 (fun _=>⟨#[]⟩) (fun _=>⟨#[]⟩)=wz at hu PT ⊢
        have RG:Below w.heap.size w wz:=PT.aK abc (by omega) (fun i hi=>by simp at hi;omega)
        have zc:=ab hu
        have hwz:=lt_of_heap hu
        refine bodyPost_ret (v:=.tuple #[.agg (cI 0 (fun _=>⟨#[]⟩) (fun _=>⟨#[]⟩)),.bool false]) ?_ rfl ⟨RG,.inl ⟨uf.out.symm,rfl⟩⟩
        unfold cI at zc ⊢
        simp[results,Tryz.results266,go_sem,zc]
  · have e1:a.ag.drop k=[]:=List.drop_of_length_le (by omega)
    have HF:Hid (R=some b):=by rw[←uf.out,e1];rfl
    have q0:wr.cell? ⟨w.heap.size,0,none⟩=some (.int .i64 n):=by rw[cell_of_row _ _ _ _ _ _ fm];rfl
    have q1:wr.cell? ⟨w.heap.size,1,none⟩=some (.string (X 0)):=by rw[cell_of_row _ _ _ _ _ _ fm];rfl
    have q2:wr.cell? ⟨w.heap.size,2,none⟩=some (.string (Y 0)):=by rw[cell_of_row _ _ _ _ _ _ fm];rfl
    have q3:wr.cell? ⟨w.heap.size,3,none⟩=some (.string (X 1)):=by rw[cell_of_row _ _ _ _ _ _ fm];rfl
    have q4:wr.cell? ⟨w.heap.size,4,none⟩=some (.string (Y 1)):=by rw[cell_of_row _ _ _ _ _ _ fm];rfl
    have q5:wr.cell? ⟨w.heap.size,5,none⟩=some (.string (X 2)):=by rw[cell_of_row _ _ _ _ _ _ fm];rfl
    have q6:wr.cell? ⟨w.heap.size,6,none⟩=some (.string (Y 2)):=by rw[cell_of_row _ _ _ _ _ _ fm];rfl
    have q7:wr.cell? ⟨w.heap.size,7,none⟩=some (.string (X 3)):=by rw[cell_of_row _ _ _ _ _ _ fm];rfl
    have q8:wr.cell? ⟨w.heap.size,8,none⟩=some (.string (Y 3)):=by rw[cell_of_row _ _ _ _ _ _ fm];rfl
    have q9:wr.cell? ⟨w.heap.size,9,none⟩=some (.string (X 4)):=by rw[cell_of_row _ _ _ _ _ _ fm];rfl
    have V3:wr.cell? ⟨w.heap.size,10,none⟩=some (.string (Y 4)):=by rw[cell_of_row _ _ _ _ _ _ fm];rfl
    have Wm:wr.cell? ⟨w.heap.size,11,none⟩=some (.string (X 5)):=by rw[cell_of_row _ _ _ _ _ _ fm];rfl
    have WC:wr.cell? ⟨w.heap.size,12,none⟩=some (.string (Y 5)):=by rw[cell_of_row _ _ _ _ _ _ fm];rfl
    have IV:w.heap.size<wr.heap.size:=by omega
    have acG:w.heap.size+1+1+1<wr.heap.size:=by omega
    have r0:wr.cell? ⟨w.heap.size+1+1+1,0,none⟩=some (.int .i64 0):=by rw[cell_of_row _ _ _ _ _ _ fY];rfl
    have r1:wr.cell? ⟨w.heap.size+1+1+1,1,none⟩=some (.string ⟨#[]⟩):=by rw[cell_of_row _ _ _ _ _ _ fY];rfl
    have r2:wr.cell? ⟨w.heap.size+1+1+1,2,none⟩=some (.string ⟨#[]⟩):=by rw[cell_of_row _ _ _ _ _ _ fY];rfl
    have r3:wr.cell? ⟨w.heap.size+1+1+1,3,none⟩=some (.string ⟨#[]⟩):=by rw[cell_of_row _ _ _ _ _ _ fY];rfl
    have r4:wr.cell? ⟨w.heap.size+1+1+1,4,none⟩=some (.string ⟨#[]⟩):=by rw[cell_of_row _ _ _ _ _ _ fY];rfl
    have r5:wr.cell? ⟨w.heap.size+1+1+1,5,none⟩=some (.string ⟨#[]⟩):=by rw[cell_of_row _ _ _ _ _ _ fY];rfl
    have r6:wr.cell? ⟨w.heap.size+1+1+1,6,none⟩=some (.string ⟨#[]⟩):=by rw[cell_of_row _ _ _ _ _ _ fY];rfl
    have r7:wr.cell? ⟨w.heap.size+1+1+1,7,none⟩=some (.string ⟨#[]⟩):=by rw[cell_of_row _ _ _ _ _ _ fY];rfl
    have r8:wr.cell? ⟨w.heap.size+1+1+1,8,none⟩=some (.string ⟨#[]⟩):=by rw[cell_of_row _ _ _ _ _ _ fY];rfl
    have r9:wr.cell? ⟨w.heap.size+1+1+1,9,none⟩=some (.string ⟨#[]⟩):=by rw[cell_of_row _ _ _ _ _ _ fY];rfl
    have r10:wr.cell? ⟨w.heap.size+1+1+1,10,none⟩=some (.string ⟨#[]⟩):=by rw[cell_of_row _ _ _ _ _ _ fY];rfl
    have r11:wr.cell? ⟨w.heap.size+1+1+1,11,none⟩=some (.string ⟨#[]⟩):=by rw[cell_of_row _ _ _ _ _ _ fY];rfl
    have r12:wr.cell? ⟨w.heap.size+1+1+1,12,none⟩=some (.string ⟨#[]⟩):=by rw[cell_of_row _ _ _ _ _ _ fY];rfl
    have rf:∀o,wr.frozen? ⟨w.heap.size+1+1+1,o,none⟩=false:=fun o=>by simp[World.frozen?,fY]
    have tJ:Hid (wr.heap[w.heap.size+1+1+1]?=some (.cells (cI 0 (fun _=>⟨#[]⟩) (fun _=>⟨#[]⟩)) 369 (0,0))):=fY
    clear uf e1 TO bQ fm UW Ei CL fY
    go_wp2_with fail
    change bodyPost Tryz.prog _ _ _ _ (FC wr (w.heap.size+1+1+1) n X Y)
    obtain⟨hu,PT⟩:=tB (n:=n) (X:=X) (Y:=Y) tJ.out
    generalize FC wr (w.heap.size+1+1+1) n X Y=wz at hu PT ⊢
    have RG:Below w.heap.size w wz:=PT.aK mF (by omega) (fun i hi=>by simp at hi;omega)
    have z:=ab hu
    have hwz:=lt_of_heap hu
    refine bodyPost_ret (v:=.tuple #[.agg (cI n X Y),.bool true]) ?_ rfl ⟨RG,.inr ⟨b,n,X,Y,HF.out,hb,by omega,rfl⟩⟩
    unfold cI at z ⊢
    simp[results,Tryz.results266,go_sem,z]
theorem Lh(w:World)(b0:En.Bind)(n0:Nat)(X0 Y0:Nat→ByteArray)(bL:BZ b0 n0 X0 Y0)(a:Ax.Atom)(ad:Option Addr)(ac:Nat)(pr x y z:ByteArray)
 (ha:MA.ok w (a,.slice ad a.ag.length ac))(hk:∀t,t∈a.ag→t.kind=0∨t.kind=1)(h3:a.ag.length≤3)(hn:n0+a.ag.length≤6):
 Calls Tryz.prog 266 #[.agg (cI n0 X0 Y0),.agg #[.int .i64 a.at_,.string a.pred,.slice ad a.ag.length ac],.agg #[.string pr,.string x,.string y,.string z]] w (Mx w (En.dh a (pr,[x,y,z]) b0) (n0+a.ag.length)):=by
 unfold En.dh
 by_cases hp:a.pred=pr
 · rw[if_pos hp]
   exact JL w b0 n0 X0 Y0 bL a ad ac pr x y z hp ha hk h3 hn
 · rw[if_neg hp]
   exact Mp w b0 n0 X0 Y0 a ad ac _ pr x y z hp
end
/- Package follow: fact. -/
section
open Go.RowKit
open Go.Sort (grow)
def fk(f:Nat→ByteArray)(k:Nat):Nat→ByteArray:=fun i=>if i<k then f i else ⟨#[]⟩
def kZ(pr:ByteArray)(F:Nat→ByteArray):Array Value:=#[.string pr,.string (F 0),.string (F 1),.string (F 2)]
theorem MP{pr:ByteArray}{f:Nat→ByteArray}{k:Nat}(hk:k<3){v:ByteArray}(hv:f k=v):(kZ pr (fk f k)).setIfInBounds (1+k) (.string v)=kZ pr (fk f (k+1)):=by
 subst hv
 have:k=0∨k=1∨k=2:=by omega
 rcases this with rfl | rfl | rfl<;>rfl
theorem OZ{pr:ByteArray}{F:Nat→ByteArray}{k:Nat}(hk:k<3):(kZ pr F)[1+k]?=some (.string (F k)):=by
 have:k=0∨k=1∨k=2:=by omega
 rcases this with rfl | rfl | rfl<;>rfl
def Jz(ts:List Ax.Term)(s:ByteArray→ByteArray):Nat→ByteArray:=fun i=>((ts[i]?).map (En.dK s)).getD ⟨#[]⟩
theorem N8(pr:ByteArray)(ts:List Ax.Term)(s:ByteArray→ByteArray)(h:ts.length≤3):kZ pr (fk (Jz ts s) ts.length)=#[.string pr,.string ((En.pad (ts.map (En.dK s)))[0]?.getD ⟨#[]⟩),.string ((En.pad (ts.map (En.dK s)))[1]?.getD ⟨#[]⟩),.string ((En.pad (ts.map (En.dK s)))[2]?.getD ⟨#[]⟩)]:=by
 match ts,h with
 | [],_=>rfl
 | [_],_=>rfl
 | [_,_],_=>rfl
 | [_,_,_],_=>rfl
theorem I8{l:List ByteArray}(h:l.length≤3):∃a b c,En.pad l=[a,b,c]:=by
 match l,h with
 | [],_=>exact⟨_,_,_,rfl⟩
 | [_],_=>exact⟨_,_,_,rfl⟩
 | [_,_],_=>exact⟨_,_,_,rfl⟩
 | [_,_,_],_=>exact⟨_,_,_,rfl⟩
def OM(w:World)(r:Nat)(pr:ByteArray)(F:Nat→ByteArray):World:=(((w.setCell ⟨r,0,none⟩ (.string pr)).setCell ⟨r,1,none⟩ (.string (F 0))).setCell ⟨r,2,none⟩ (.string (F 1))).setCell ⟨r,3,none⟩ (.string (F 2))
theorem Jk{w:World}{r:Nat}{q pr:ByteArray}{G F:Nat→ByteArray}{T:TypeId}(h:w.heap[r]?=some (.cells (kZ q G) T (0,0))):(OM w r pr F).heap[r]?=some (.cells (kZ pr F) T (0,0))∧Kb [r] w (OM w r pr F):=by
 have h0:=an _ h 0 (.string pr)
 have h1:=an _ h0 1 (.string (F 0))
 have h2:=an _ h1 2 (.string (F 1))
 have h3:=an _ h2 3 (.string (F 2))
 refine⟨by simpa [OM,kZ]using h3, ?_⟩
 exact(((Kb.setCell w ⟨r,0,none⟩ (.string pr)).trans (Kb.setCell _ ⟨r,1,none⟩ (.string (F 0)))).trans (Kb.setCell _ ⟨r,2,none⟩ (.string (F 1)))).trans (Kb.setCell _ ⟨r,3,none⟩ (.string (F 2)))
theorem Rh(w:World)(o1 o2 o3:Obj):Below w.heap.size w (((w.alloc o1).alloc o2).alloc o3)∧(((w.alloc o1).alloc o2).alloc o3).heap.size=w.heap.size+3∧(((w.alloc o1).alloc o2).alloc o3).heap[w.heap.size+1]?=some o2∧(((w.alloc o1).alloc o2).alloc o3).heap[w.heap.size+1+1]?=some o3:=by
 refine⟨(((Below.refl _ _).alloc (Nat.le_refl _) _).alloc (by simp) _).alloc (by simp;omega) _,by simp, ?_, ?_⟩
 · rw[Below.heap_alloc _ _ _ (by simp)]
   have:=heap_alloc_new (w.alloc o1) o2
   simpa using this
 · have:=heap_alloc_new ((w.alloc o1).alloc o2) o3
   simpa using this
theorem NT(w:World)(g n:Nat)(X Y:Nat→ByteArray)(b:En.Bind)(hb:BZ b n X Y)(hg:w.heap[g]?=some (.cells (cI n X Y) 369 (0,0)))(a:Ax.Atom)(ad:Option Addr)(ac:Nat)
 (ha:MA.ok w (a,.slice ad a.ag.length ac))(hk:∀t,t∈a.ag→t.kind=0∨t.kind=1)(h3:a.ag.length≤3):
 Calls Tryz.prog 265 #[.pointer (some ⟨g,0,none⟩),.agg #[.int .i64 a.at_,.string a.pred,.slice ad a.ag.length ac]] w fun e w'=>Below w.heap.size w w'∧e=.returned (.agg (kZ a.pred (fk (Jz a.ag (En.val b)) a.ag.length))):=by
 have mO:=lt_of_heap hg
 unfold MA.ok at ha
 simp only at ha
 have hle:=bh ha
 have HK:Hid (∀t,t∈a.ag→t.kind=0∨t.kind=1):=hk
 clear hk
 generalize hf:Jz a.ag (En.val b)=f
 have HF:Hid (Jz a.ag (En.val b)=f):=hf
 clear hf
 go_enter Tryz.func265,Tryz.ntmps265
 go_wp2_with fail
 change Code.wp Tryz.prog _ _ _ (((w.alloc (.cells #[.int .i64 a.at_,.string a.pred,.slice ad a.ag.length ac] 219)).alloc (.cells (kZ ⟨#[]⟩ (fk f 0)) 325)).alloc (.cells (kZ a.pred (fk f 0)) 325))
 obtain⟨mb,ms,CL,Ei⟩:=Rh w (.cells #[.int .i64 a.at_,.string a.pred,.slice ad a.ag.length ac] 219) (.cells (kZ ⟨#[]⟩ (fk f 0)) 325) (.cells (kZ a.pred (fk f 0)) 325)
 generalize (((w.alloc (.cells #[.int .i64 a.at_,.string a.pred,.slice ad a.ag.length ac] 219)).alloc (.cells (kZ ⟨#[]⟩ (fk f 0)) 325)).alloc (.cells (kZ a.pred (fk f 0)) 325))=w0 at mb ms CL Ei ⊢
 have mN:w0.heap[g]?=some (.cells (cI n X Y) 369 (0,0)):=by rw[mb.block _ mO];exact hg
 go_loopw [14] (fun iv wr=>∃k:Nat,k≤a.ag.length∧iv=.int .i64 k∧wr.heap[w.heap.size+1+1]?=some (.cells (kZ a.pred (fk f k)) 325 (0,0))∧Kb [w.heap.size+1+1] w0 wr) (fun iv _=>a.ag.length-(intOf iv).toNat)
 case atStart=>exact⟨0,Nat.zero_le _,rfl,Ei,Kb.refl _ _⟩
 case round=>
  obtain⟨k,CB,rfl,PU,fq⟩:=hrel
  have cE:=fq.size
  have bQ:wr.ownsRow 0 310 2 (.slice ad a.ag.length ac) a.ag.length (cg a.ag):=fq.row (ae ha mb) (fun q hq hm=>by
   simp only[List.mem_singleton]at hm
   have:=(World.ownsRow.lt ha q hq).2
   omega)
  have fY:wr.heap[w.heap.size+1]?=some (.cells (kZ ⟨#[]⟩ (fk f 0)) 325 (0,0)):=fq.heap CL (by simp only[List.mem_singleton];omega)
  have AA:wr.heap[g]?=some (.cells (cI n X Y) 369 (0,0)):=fq.heap mN (by simp only[List.mem_singleton];omega)
  have mF:Below w.heap.size w wr:=fq.aK mb (by omega) (fun i hi=>by simp at hi;omega)
  have Ma:w.heap.size+1+1<wr.heap.size:=by omega
  by_cases aE:k<a.ag.length
  · obtain⟨tg,rfl,lX,htc,u4⟩:=aD bQ (by omega)
    obtain⟨y0,y1⟩:=fe a.ag k aE
    have d0:=u4 _ _ y0
    have d1:=u4 _ _ y1
    have Lj:=HK.out _ (List.getElem_mem aE)
    have hfk:f k=En.dK (En.val b) a.ag[k]:=by rw[←HF.out];simp[Jz,List.getElem?_eq_getElem aE]
    generalize a.ag[k]=t at d0 d1 Lj hfk
    obtain⟨tk,tt⟩:=t
    simp only at d0 d1
    have ga:∀W,Below wr.heap.size wr W→Calls Tryz.prog 286 #[.pointer (some ⟨g,0,none⟩),.agg #[.int .i64 tk,.string tt]] W fun e w'=>e=.returned (.string (En.dK (En.val b) ⟨tk,tt⟩))∧Below W.heap.size W w':=fun W hW=>CV W g n X Y b hb ⟨tk,tt⟩ Lj (by rw[hW.block _ (by omega)];exact AA)
    rw[←hfk]at ga
    generalize hv:f k=v at ga
    have HV:Hid (f k=v):=hv
    clear u4 bQ Ei CL y0 y1 Lj hfk AA hg mN hv fY
    go_wp2_with (go_at_call 286;refine(ga _ (by exact(Below.refl _ _).alloc (Nat.le_refl _) _)).mono ?_;rintro e w1 ⟨rfl,a8⟩;have fQ:Below wr.heap.size wr w1:=((Below.refl _ _).alloc (Nat.le_refl _) _).trans (a8.mono (by simp));have RN:w1.heap[w.heap.size+1+1]?=some (.cells (kZ a.pred (fk f k)) 325 (0,0)):=(by rw[fQ.block _ Ma];exact PU);have kV:=fQ.size;have Tv:w.heap.size+1+1<w1.heap.size:=(by omega);have fx:(w1.cell? ⟨w.heap.size+1+1,1+k,none⟩)=some (.string (fk f k k)):=(by rw[cell_of_row _ _ _ _ _ _ RN];exact OZ (by omega));have fz:w1.frozen? ⟨w.heap.size+1+1,1+k,none⟩=false:=(by simp[World.frozen?,RN]);have abv:Hid (w1.heap[w.heap.size+1+1]?=some (.cells (kZ a.pred (fk f k)) 325 (0,0))):=RN;clear a8 ga RN)
    have sk:=an w1 abv.out (1+k) (.string v)
    rw[MP (by omega) HV.out]at sk
    go_roundw
    case rel=>exact⟨k+1,by omega,by go_num,sk,(fq.below fQ).trans (Kb.setCell w1 ⟨w.heap.size+1+1,1+k,none⟩ (.string v))⟩
    case measure=>simp[intOf];omega
  · have ab3:k=a.ag.length:=by omega
    subst ab3
    have q0:wr.cell? ⟨w.heap.size+1+1,0,none⟩=some (.string a.pred):=by rw[cell_of_row _ _ _ _ _ _ PU];rfl
    have q1:wr.cell? ⟨w.heap.size+1+1,1,none⟩=some (.string (fk f a.ag.length 0)):=by rw[cell_of_row _ _ _ _ _ _ PU];rfl
    have q2:wr.cell? ⟨w.heap.size+1+1,2,none⟩=some (.string (fk f a.ag.length 1)):=by rw[cell_of_row _ _ _ _ _ _ PU];rfl
    have q3:wr.cell? ⟨w.heap.size+1+1,3,none⟩=some (.string (fk f a.ag.length 2)):=by rw[cell_of_row _ _ _ _ _ _ PU];rfl
    have r0:wr.cell? ⟨w.heap.size+1,0,none⟩=some (.string ⟨#[]⟩):=by rw[cell_of_row _ _ _ _ _ _ fY];rfl
    have r1:wr.cell? ⟨w.heap.size+1,1,none⟩=some (.string ⟨#[]⟩):=by rw[cell_of_row _ _ _ _ _ _ fY];rfl
    have r2:wr.cell? ⟨w.heap.size+1,2,none⟩=some (.string ⟨#[]⟩):=by rw[cell_of_row _ _ _ _ _ _ fY];rfl
    have r3:wr.cell? ⟨w.heap.size+1,3,none⟩=some (.string ⟨#[]⟩):=by rw[cell_of_row _ _ _ _ _ _ fY];rfl
    have rf:∀o,wr.frozen? ⟨w.heap.size+1,o,none⟩=false:=fun o=>by simp[World.frozen?,fY]
    have tJ:Hid (wr.heap[w.heap.size+1]?=some (.cells (kZ ⟨#[]⟩ (fk f 0)) 325 (0,0))):=fY
    have YD:w.heap.size+1<wr.heap.size:=by omega
    clear PU bQ Ei CL fY AA hg mN
    go_wp2_with fail
    change bodyPost Tryz.prog _ _ _ _ (OM wr (w.heap.size+1) a.pred (fk f a.ag.length))
    obtain⟨hu,PT⟩:=Jk (pr:=a.pred) (F:=fk f a.ag.length) tJ.out
    generalize OM wr (w.heap.size+1) a.pred (fk f a.ag.length)=wz at hu PT ⊢
    have RG:Below w.heap.size w wz:=PT.aK mF (by omega) (fun i hi=>by simp at hi;omega)
    have zc:=ab hu
    have hwz:=lt_of_heap hu
    refine bodyPost_ret (v:=.agg (kZ a.pred (fk f a.ag.length))) ?_ rfl ⟨RG,rfl⟩
    unfold kZ at zc ⊢
    simp[results,Tryz.results265,go_sem,zc]
end
end Go.Proofs.YtdmicblafmhflaaGreatDoor

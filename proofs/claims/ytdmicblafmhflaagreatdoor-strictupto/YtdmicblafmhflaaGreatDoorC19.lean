/- Package follow: match. -/
import Derived.Test.YtdmicblafmhflaaGreatDoorC18
set_option linter.unusedSimpArgs false
set_option linter.unusedVariables false
set_option maxHeartbeats 4000000
set_option maxRecDepth 100000
namespace Go.Proofs.YtdmicblafmhflaaGreatDoor
section
open Go.RowKit
open Go.Sort (grow)
theorem Fp{t:Ax.Term}{ts:List Ax.Term}{n:ByteArray}{ns:List ByteArray}{b:En.Bind}:En.eC (t::ts) (n::ns) b=if En.dD (En.val b) t=n then En.eC ts ns b else if En.dD (En.val b) t=En.ee then En.eC ts ns (b++[(t.text,n)])else none:=rfl
theorem I8:En.ee.toList=[]:=by rw[ByteArray.toList_eq];rfl
def Vz(a b c:ByteArray):Nat→ByteArray:=fun i=>if i=0 then a else if i=1 then b else c
theorem ZA{a b c:ByteArray}{i:Nat}(h:i<3):[a,b,c].drop i=Vz a b c i::[a,b,c].drop (i+1):=by
 have:i=0∨i=1∨i=2:=by omega
 rcases this with rfl | rfl | rfl<;>rfl
def FU(w:World)(r n:Nat)(X Y:Nat→ByteArray):World:=(((((((((((((w.setCell ⟨r,0,none⟩ (.int .i64 n)).setCell ⟨r,1,none⟩ (.string (X 0))).setCell ⟨r,2,none⟩ (.string (Y 0))).setCell ⟨r,3,none⟩ (.string (X 1))).setCell ⟨r,4,none⟩ (.string (Y 1))).setCell ⟨r,5,none⟩ (.string (X 2))).setCell ⟨r,6,none⟩ (.string (Y 2))).setCell ⟨r,7,none⟩ (.string (X 3))).setCell ⟨r,8,none⟩ (.string (Y 3))).setCell ⟨r,9,none⟩ (.string (X 4))).setCell ⟨r,10,none⟩ (.string (Y 4))).setCell ⟨r,11,none⟩ (.string (X 5))).setCell ⟨r,12,none⟩ (.string (Y 5)))
theorem s5{w:World}{r m n:Nat}{A B X Y:Nat→ByteArray}{T:TypeId}(h:w.heap[r]?=some (.cells (cG m A B) T (0,0))):(FU w r n X Y).heap[r]?=some (.cells (cG n X Y) T (0,0))∧Kb [r] w (FU w r n X Y):=by
 have h0:=an _ h 0 (.int .i64 n)
 have h1:=an _ h0 1 (.string (X 0))
 have h2:=an _ h1 2 (.string (Y 0))
 have h3:=an _ h2 3 (.string (X 1))
 have h4:=an _ h3 4 (.string (Y 1))
 have h5:=an _ h4 5 (.string (X 2))
 have h6:=an _ h5 6 (.string (Y 2))
 have h7:=an _ h6 7 (.string (X 3))
 have h8:=an _ h7 8 (.string (Y 3))
 have h9:=an _ h8 9 (.string (X 4))
 have h10:=an _ h9 10 (.string (Y 4))
 have h11:=an _ h10 11 (.string (X 5))
 have h12:=an _ h11 12 (.string (Y 5))
 refine⟨by simpa [FU,cG]using h12, ?_⟩
 exact((((((((((((Kb.setCell w ⟨r,0,none⟩ (.int .i64 (n:Int))).trans (Kb.setCell _ ⟨r,1,none⟩ (.string (X 0)))).trans (Kb.setCell _ ⟨r,2,none⟩ (.string (Y 0)))).trans (Kb.setCell _ ⟨r,3,none⟩ (.string (X 1)))).trans (Kb.setCell _ ⟨r,4,none⟩ (.string (Y 1)))).trans (Kb.setCell _ ⟨r,5,none⟩ (.string (X 2)))).trans (Kb.setCell _ ⟨r,6,none⟩ (.string (Y 2)))).trans (Kb.setCell _ ⟨r,7,none⟩ (.string (X 3)))).trans (Kb.setCell _ ⟨r,8,none⟩ (.string (Y 3)))).trans (Kb.setCell _ ⟨r,9,none⟩ (.string (X 4)))).trans (Kb.setCell _ ⟨r,10,none⟩ (.string (Y 4)))).trans (Kb.setCell _ ⟨r,11,none⟩ (.string (X 5)))).trans (Kb.setCell _ ⟨r,12,none⟩ (.string (Y 5)))
def Mq(w:World)(R:Option En.Bind)(m:Nat)(e:Ending)(w':World):Prop:=Below w.heap.size w w'∧
 ((R=none∧e=.returned (.tuple #[.agg (cG 0 (fun _=>⟨#[]⟩) (fun _=>⟨#[]⟩)),.bool false]))∨(∃b1 n1 X1 Y1,R=some b1∧BM b1 n1 X1 Y1∧n1≤m∧e=.returned (.tuple #[.agg (cG n1 X1 Y1),.bool true])))
theorem M8(w:World)(b0:En.Bind)(n0:Nat)(X0 Y0:Nat→ByteArray)(a:Ax.Atom)(ad:Option Addr)(ac m:Nat)(pr x y z:ByteArray)(hp:¬a.pred=pr):
 Calls Tryz.prog 266 #[.agg (cG n0 X0 Y0),.agg #[.int .i64 a.at_,.string a.pred,.slice ad a.ag.length ac],.agg #[.string pr,.string x,.string y,.string z]] w (Mq w none m):=by
 have zx:(a.pred.toList==pr.toList)=false:=by rw[eF];simp[hp]
 have V0:(a.pred.toList != pr.toList)=true:=by simp[bne,zx]
 clear hp
 unfold cG
 go_enter Tryz.func266,Tryz.ntmps266
 go_wp2_with fail
 exact bodyPost_ret (v:=.tuple #[.agg #[.int .i64 0,.string ⟨#[]⟩,.string ⟨#[]⟩,.string ⟨#[]⟩,.string ⟨#[]⟩,.string ⟨#[]⟩,.string ⟨#[]⟩,.string ⟨#[]⟩,.string ⟨#[]⟩,.string ⟨#[]⟩,.string ⟨#[]⟩,.string ⟨#[]⟩,.string ⟨#[]⟩],.bool false]) (by simp[results,Tryz.results266,go_sem]) rfl ⟨((((Below.refl _ _).alloc (Nat.le_refl _) _).alloc (by simp) _).alloc (by simp;omega) _).alloc (by simp;omega) _,.inl ⟨rfl,rfl⟩⟩
structure MW(w w0:World)(n:Nat)(X Y:Nat→ByteArray)(pr x y z:ByteArray):Prop where
 below:Below w.heap.size w w0
 size:w0.heap.size=w.heap.size+4
 bnd:w0.heap[w.heap.size]?=some (.cells (cG n X Y) 369 (0,0))
 fct:w0.heap[w.heap.size+2]?=some (.cells #[.string pr,.string x,.string y,.string z] 325 (0,0))
 res:w0.heap[w.heap.size+3]?=some (.cells (cG 0 (fun _=>⟨#[]⟩) (fun _=>⟨#[]⟩)) 369 (0,0))
theorem Qh(w:World)(n:Nat)(X Y:Nat→ByteArray)(o:Obj)(pr x y z:ByteArray):MW w ((((w.alloc (.cells (cG n X Y) 369)).alloc o).alloc (.cells #[.string pr,.string x,.string y,.string z] 325)).alloc (.cells (cG 0 (fun _=>⟨#[]⟩) (fun _=>⟨#[]⟩)) 369)) n X Y pr x y z where
 below:=((((Below.refl _ _).alloc (Nat.le_refl _) _).alloc (by simp) _).alloc (by simp;omega) _).alloc (by simp;omega) _
 size:=by simp
 bnd:=by
  rw[Below.heap_alloc _ _ _ (by simp;omega),Below.heap_alloc _ _ _ (by simp;omega),Below.heap_alloc _ _ _ (by simp)]
  exact heap_alloc_new w _
 fct:=by
  rw[Below.heap_alloc _ _ _ (by simp)]
  have:=heap_alloc_new ((w.alloc (.cells (cG n X Y) 369)).alloc o) (.cells #[.string pr,.string x,.string y,.string z] 325)
  simpa using this
 res:=by
  have:=heap_alloc_new (((w.alloc (.cells (cG n X Y) 369)).alloc o).alloc (.cells #[.string pr,.string x,.string y,.string z] 325)) (.cells (cG 0 (fun _=>⟨#[]⟩) (fun _=>⟨#[]⟩)) 369)
  simpa using this
theorem JD(w:World)(b0:En.Bind)(n0:Nat)(X0 Y0:Nat→ByteArray)(bK:BM b0 n0 X0 Y0)(a:Ax.Atom)(ad:Option Addr)(ac:Nat)(pr x y z:ByteArray)(hp:a.pred=pr)
 (ha:MA.ok w (a,.slice ad a.ag.length ac))(hk:∀t,t∈a.ag→t.kind=0∨t.kind=1)(h3:a.ag.length≤3)(hn:n0+a.ag.length≤6):
 Calls Tryz.prog 266 #[.agg (cG n0 X0 Y0),.agg #[.int .i64 a.at_,.string a.pred,.slice ad a.ag.length ac],.agg #[.string pr,.string x,.string y,.string z]] w (Mq w (En.eC a.ag [x,y,z] b0) (n0+a.ag.length)):=by
 have zx:(a.pred.toList==pr.toList)=true:=by rw[eF];simp[hp]
 have V0:(a.pred.toList != pr.toList)=false:=by simp[bne,zx]
 obtain⟨w0,di,hmw⟩:∃w0,w0=((((w.alloc (.cells (cG n0 X0 Y0) 369)).alloc (.cells #[.int .i64 a.at_,.string a.pred,.slice ad a.ag.length ac] 219)).alloc (.cells #[.string pr,.string x,.string y,.string z] 325)).alloc (.cells (cG 0 (fun _=>⟨#[]⟩) (fun _=>⟨#[]⟩)) 369))∧MW w w0 n0 X0 Y0 pr x y z:=⟨_,rfl,Qh w n0 X0 Y0 _ pr x y z⟩
 generalize hR:En.eC a.ag [x,y,z] b0=R
 have HK:Hid (∀t,t∈a.ag→t.kind=0∨t.kind=1):=hk
 unfold MA.ok at ha
 simp only at ha
 have hle:=aZ ha
 clear hp hk
 go_enter Tryz.func266,Tryz.ntmps266
 have BP:∀n X Y,cG n X Y=#[.int .i64 n,.string (X 0),.string (Y 0),.string (X 1),.string (Y 1),.string (X 2),.string (Y 2),.string (X 3),.string (Y 3),.string (X 4),.string (Y 4),.string (X 5),.string (Y 5)]:=fun _ _ _=>rfl
 rw[BP n0 X0 Y0]
 go_wp2_with fail
 rw[←BP n0 X0 Y0]
 change Code.wp Tryz.prog _ _ _ ((((w.alloc (.cells (cG n0 X0 Y0) 369)).alloc (.cells #[.int .i64 a.at_,.string a.pred,.slice ad a.ag.length ac] 219)).alloc (.cells #[.string pr,.string x,.string y,.string z] 325)).alloc (.cells (cG 0 (fun _=>⟨#[]⟩) (fun _=>⟨#[]⟩)) 369))
 rw[←di]
 clear di BP zx V0
 obtain⟨mb,ms,TV,Ei,Ek⟩:=hmw
 go_loopw [19] (fun iv wr=>∃(k n:Nat) (b:En.Bind) (X Y:Nat→ByteArray),k≤a.ag.length∧n≤n0+k∧iv=.int .i64 k∧BM b n X Y∧wr.heap[w.heap.size]?=some (.cells (cG n X Y) 369 (0,0))∧Kb [w.heap.size] w0 wr∧En.eC (a.ag.drop k) ([x,y,z].drop k) b=R) (fun iv _=>a.ag.length-(intOf iv).toNat)
 case atStart=>exact⟨0,n0,b0,X0,Y0,Nat.zero_le _,Nat.le_refl _,rfl,bK,TV,Kb.refl _ _,by simpa using hR⟩
 case round=>
  obtain⟨k,n,b,X,Y,KL,hnk,rfl,hb,fE,fC,hr⟩:=hrel
  have ud:Hid (En.eC (a.ag.drop k) ([x,y,z].drop k) b=R):=hr
  clear hr hR
  have cr:=fC.size
  have bV:wr.ownsRow 0 310 2 (.slice ad a.ag.length ac) a.ag.length (b9 a.ag):=fC.row (af ha mb) (fun q hq hm=>by
   simp only[List.mem_singleton]at hm
   have:=(World.ownsRow.lt ha q hq).2
   omega)
  have Wa:wr.heap[w.heap.size+1+1]?=some (.cells #[.string pr,.string x,.string y,.string z] 325 (0,0)):=fC.heap Ei (by simp only[List.mem_singleton];omega)
  have dv:wr.heap[w.heap.size+1+1+1]?=some (.cells (cG 0 (fun _=>⟨#[]⟩) (fun _=>⟨#[]⟩)) 369 (0,0)):=fC.heap Ek (by simp only[List.mem_singleton];omega)
  have oq:Below w.heap.size w wr:=fC.aK mb (by omega) (fun i hi=>by simp at hi;omega)
  by_cases aC:k<a.ag.length
  · obtain⟨tg,rfl,lY,htc,vw⟩:=ax bV (by omega)
    obtain⟨y0,y1⟩:=fg a.ag k aC
    have d0:=vw _ _ y0
    have d1:=vw _ _ y1
    have UY:=HK.out _ (List.getElem_mem aC)
    rw[List.drop_eq_getElem_cons aC,ZA (by omega),Fp]at ud
    generalize a.ag[k]=t at d0 d1 UY ud
    obtain⟨tk,tt⟩:=t
    simp only at d0 d1
    have f0:wr.cell? ⟨w.heap.size+1+1,1+k,none⟩=some (.string (Vz x y z k)):=by
     rw[cell_of_row _ _ _ _ _ _ Wa]
     have:k=0∨k=1∨k=2:=by omega
     rcases this with rfl | rfl | rfl<;>rfl
    have iG:∀W,Below wr.heap.size wr W→Calls Tryz.prog 286 #[.pointer (some ⟨w.heap.size,0,none⟩),.agg #[.int .i64 tk,.string tt]] W fun e w'=>e=.returned (.string (En.dD (En.val b) ⟨tk,tt⟩))∧Below W.heap.size W w':=fun W hW=>E8 W w.heap.size n X Y b hb ⟨tk,tt⟩ UY (by rw[hW.block _ (by omega)];exact fE)
    generalize hv:En.dD (En.val b) ⟨tk,tt⟩=v at iG ud
    generalize VX:Vz x y z k=nn at f0 ud
    have Ir:w.heap.size<wr.heap.size:=by omega
    have L7:w.heap.size+1+1<wr.heap.size:=by omega
    clear vw bV Ei Ek TV Wa y0 y1 UY hv VX
    by_cases heq:v=nn
    · have S8:(v.toList==nn.toList)=true:=by rw[eF];simp[heq]
      rw[if_pos heq]at ud
      clear heq
      go_wp2_with (go_at_call 286;refine(iG _ (by exact(Below.refl _ _).alloc (Nat.le_refl _) _)).mono ?_;rintro e w1 ⟨rfl,bk⟩;have fY:Below wr.heap.size wr w1:=((Below.refl _ _).alloc (Nat.le_refl _) _).trans (bk.mono (by simp));have f1:w1.cell? ⟨w.heap.size+1+1,1+k,none⟩=some (.string nn):=(fY.cell L7).trans f0;have kW:=fY.size;have UW:w.heap.size+1+1<w1.heap.size:=(by omega);clear bk iG)
      go_roundw
      case rel=>
       refine⟨k+1,n,b,X,Y,by omega,by omega,by go_num,hb, ?_,fC.below fY,ud.out⟩
       rw[fY.block _ Ir]
       exact fE
      case measure=>simp[intOf];omega
    · have S8:(v.toList==nn.toList)=false:=by rw[eF];simp[heq]
      rw[if_neg heq]at ud
      clear heq
      by_cases Vc:v=En.ee
      · have lW:v.toList.isEmpty=true:=by rw[Vc,I8];rfl
        rw[if_pos Vc]at ud
        have HEM:Hid (v=En.ee):=Vc
        clear Vc
        have UT:∀W:World,Below (wr.alloc (.cells #[.int .i64 tk,.string tt] 310)).heap.size (wr.alloc (.cells #[.int .i64 tk,.string tt] 310)) W→W.cell? ⟨wr.heap.size,1,none⟩=some (.string tt):=fun W hW=>by
         have e:W.heap[wr.heap.size]?=some (.cells #[.int .i64 tk,.string tt] 310 (0,0)):=by rw[hW.block _ (by simp)];exact heap_alloc_new wr _
         rw[cell_of_row _ _ 1 _ _ _ e];rfl
        go_upto_region 10 with(go_at_call 286;refine(iG _ (by exact(Below.refl _ _).alloc (Nat.le_refl _) _)).mono ?_;rintro e w1 ⟨rfl,bk⟩;have fY:Below wr.heap.size wr w1:=((Below.refl _ _).alloc (Nat.le_refl _) _).trans (bk.mono (by simp));have f1:w1.cell? ⟨w.heap.size+1+1,1+k,none⟩=some (.string nn):=(fY.cell L7).trans f0;have kW:=fY.size;have UW:w.heap.size+1+1<w1.heap.size:=(by omega);have mQ:Hid (Below (wr.alloc (.cells #[.int .i64 tk,.string tt] 310)).heap.size (wr.alloc (.cells #[.int .i64 tk,.string tt] 310)) w1):=bk;clear bk iG)
        have u1:w1.cell? ⟨wr.heap.size,1,none⟩=some (.string tt):=UT w1 mQ.out
        have ade:w1.heap[w.heap.size]?=some (.cells (cG n X Y) 369 (0,0)):=by rw[fY.block _ Ir];exact fE
        have sj:=fun W (hW:W.heap=w1.heap)=>RU W w.heap.size n X Y tt nn (by omega) (by rw[hW];exact ade)
        have ajI:wr.heap.size<w1.heap.size:=by have:=mQ.out.size;simp at this;omega
        clear mQ UT
        go_region_with (go_at_call 287;refine(sj _ (by rfl)).mono ?_;rintro e w2 ⟨rfl,X5,NH⟩)
        all_goals
         (go_wp2_with fail
          go_roundw
          case rel=>
           refine⟨k+1,n+1,_,_,_,by omega,by omega,by go_num,hb.snoc (by omega) tt nn,X5,(fC.below fY).trans (Kb.XJ NH),ud.out⟩
          case measure=>simp[intOf];omega)
      · have lW:v.toList.isEmpty=false:=by rw[Bool.eq_false_iff];intro hc;rw[List.isEmpty_iff]at hc;exact Vc (Tb.toList_inj (by rw[hc,I8]))
        rw[if_neg Vc]at ud
        clear Vc
        go_upto_region 7 with(go_at_call 286;refine(iG _ (by exact(Below.refl _ _).alloc (Nat.le_refl _) _)).mono ?_;rintro e w1 ⟨rfl,bk⟩;have fY:Below wr.heap.size wr w1:=((Below.refl _ _).alloc (Nat.le_refl _) _).trans (bk.mono (by simp));have f1:w1.cell? ⟨w.heap.size+1+1,1+k,none⟩=some (.string nn):=(fY.cell L7).trans f0;have kW:=fY.size;have UW:w.heap.size+1+1<w1.heap.size:=(by omega);clear bk iG)
        have jT:w1.heap[w.heap.size+1+1+1]?=some (.cells (cG 0 (fun _=>⟨#[]⟩) (fun _=>⟨#[]⟩)) 369 (0,0)):=by rw[fY.block _ (by omega)];exact dv
        have pQ:Hid (w1.heap[w.heap.size+1+1+1]?=some (.cells (cG 0 (fun _=>⟨#[]⟩) (fun _=>⟨#[]⟩)) 369 (0,0))):=jT
        have r0:w1.cell? ⟨w.heap.size+1+1+1,0,none⟩=some (.int .i64 0):=by rw[cell_of_row _ _ _ _ _ _ jT];rfl
        have r1:w1.cell? ⟨w.heap.size+1+1+1,1,none⟩=some (.string ⟨#[]⟩):=by rw[cell_of_row _ _ _ _ _ _ jT];rfl
        have r2:w1.cell? ⟨w.heap.size+1+1+1,2,none⟩=some (.string ⟨#[]⟩):=by rw[cell_of_row _ _ _ _ _ _ jT];rfl
        have r3:w1.cell? ⟨w.heap.size+1+1+1,3,none⟩=some (.string ⟨#[]⟩):=by rw[cell_of_row _ _ _ _ _ _ jT];rfl
        have r4:w1.cell? ⟨w.heap.size+1+1+1,4,none⟩=some (.string ⟨#[]⟩):=by rw[cell_of_row _ _ _ _ _ _ jT];rfl
        have r5:w1.cell? ⟨w.heap.size+1+1+1,5,none⟩=some (.string ⟨#[]⟩):=by rw[cell_of_row _ _ _ _ _ _ jT];rfl
        have r6:w1.cell? ⟨w.heap.size+1+1+1,6,none⟩=some (.string ⟨#[]⟩):=by rw[cell_of_row _ _ _ _ _ _ jT];rfl
        have r7:w1.cell? ⟨w.heap.size+1+1+1,7,none⟩=some (.string ⟨#[]⟩):=by rw[cell_of_row _ _ _ _ _ _ jT];rfl
        have r8:w1.cell? ⟨w.heap.size+1+1+1,8,none⟩=some (.string ⟨#[]⟩):=by rw[cell_of_row _ _ _ _ _ _ jT];rfl
        have r9:w1.cell? ⟨w.heap.size+1+1+1,9,none⟩=some (.string ⟨#[]⟩):=by rw[cell_of_row _ _ _ _ _ _ jT];rfl
        have r10:w1.cell? ⟨w.heap.size+1+1+1,10,none⟩=some (.string ⟨#[]⟩):=by rw[cell_of_row _ _ _ _ _ _ jT];rfl
        have r11:w1.cell? ⟨w.heap.size+1+1+1,11,none⟩=some (.string ⟨#[]⟩):=by rw[cell_of_row _ _ _ _ _ _ jT];rfl
        have r12:w1.cell? ⟨w.heap.size+1+1+1,12,none⟩=some (.string ⟨#[]⟩):=by rw[cell_of_row _ _ _ _ _ _ jT];rfl
        have rf:∀o,w1.frozen? ⟨w.heap.size+1+1+1,o,none⟩=false:=fun o=>by simp[World.frozen?,jT]
        have adg:w.heap.size+1+1+1<w1.heap.size:=by omega
        have acw:Below w.heap.size w w1:=oq.trans (fY.mono (by omega))
        clear jT dv
        go_wp2_with fail
        change bodyPost Tryz.prog _ _ _ _ (FU w1 (w.heap.size+1+1+1) 0 (fun _=>⟨#[]⟩) (fun _=>⟨#[]⟩))
        obtain⟨hu,P3⟩:=s5 (n:=0) (X:=fun _=>⟨#[]⟩) (Y:=fun _=>⟨#[]⟩) pQ.out
        generalize FU w1 (w.heap.size+1+1+1) 0 (fun _=>⟨#[]⟩) (fun _=>⟨#[]⟩)=wz at hu P3 ⊢
        have P9:Below w.heap.size w wz:=P3.aK acw (by omega) (fun i hi=>by simp at hi;omega)
        have zc:=ab hu
        have hwz:=lt_of_heap hu
        refine bodyPost_ret (v:=.tuple #[.agg (cG 0 (fun _=>⟨#[]⟩) (fun _=>⟨#[]⟩)),.bool false]) ?_ rfl ⟨P9,.inl ⟨ud.out.symm,rfl⟩⟩
        unfold cG at zc ⊢
        simp[results,Tryz.results266,go_sem,zc]
  · have e1:a.ag.drop k=[]:=List.drop_of_length_le (by omega)
    have HF:Hid (R=some b):=by rw[←ud.out,e1];rfl
    have q0:wr.cell? ⟨w.heap.size,0,none⟩=some (.int .i64 n):=by rw[cell_of_row _ _ _ _ _ _ fE];rfl
    have q1:wr.cell? ⟨w.heap.size,1,none⟩=some (.string (X 0)):=by rw[cell_of_row _ _ _ _ _ _ fE];rfl
    have q2:wr.cell? ⟨w.heap.size,2,none⟩=some (.string (Y 0)):=by rw[cell_of_row _ _ _ _ _ _ fE];rfl
    have q3:wr.cell? ⟨w.heap.size,3,none⟩=some (.string (X 1)):=by rw[cell_of_row _ _ _ _ _ _ fE];rfl
    have q4:wr.cell? ⟨w.heap.size,4,none⟩=some (.string (Y 1)):=by rw[cell_of_row _ _ _ _ _ _ fE];rfl
    have q5:wr.cell? ⟨w.heap.size,5,none⟩=some (.string (X 2)):=by rw[cell_of_row _ _ _ _ _ _ fE];rfl
    have q6:wr.cell? ⟨w.heap.size,6,none⟩=some (.string (Y 2)):=by rw[cell_of_row _ _ _ _ _ _ fE];rfl
    have q7:wr.cell? ⟨w.heap.size,7,none⟩=some (.string (X 3)):=by rw[cell_of_row _ _ _ _ _ _ fE];rfl
    have q8:wr.cell? ⟨w.heap.size,8,none⟩=some (.string (Y 3)):=by rw[cell_of_row _ _ _ _ _ _ fE];rfl
    have q9:wr.cell? ⟨w.heap.size,9,none⟩=some (.string (X 4)):=by rw[cell_of_row _ _ _ _ _ _ fE];rfl
    have Wu:wr.cell? ⟨w.heap.size,10,none⟩=some (.string (Y 4)):=by rw[cell_of_row _ _ _ _ _ _ fE];rfl
    have WW:wr.cell? ⟨w.heap.size,11,none⟩=some (.string (X 5)):=by rw[cell_of_row _ _ _ _ _ _ fE];rfl
    have WE:wr.cell? ⟨w.heap.size,12,none⟩=some (.string (Y 5)):=by rw[cell_of_row _ _ _ _ _ _ fE];rfl
    have Ir:w.heap.size<wr.heap.size:=by omega
    have adg:w.heap.size+1+1+1<wr.heap.size:=by omega
    have r0:wr.cell? ⟨w.heap.size+1+1+1,0,none⟩=some (.int .i64 0):=by rw[cell_of_row _ _ _ _ _ _ dv];rfl
    have r1:wr.cell? ⟨w.heap.size+1+1+1,1,none⟩=some (.string ⟨#[]⟩):=by rw[cell_of_row _ _ _ _ _ _ dv];rfl
    have r2:wr.cell? ⟨w.heap.size+1+1+1,2,none⟩=some (.string ⟨#[]⟩):=by rw[cell_of_row _ _ _ _ _ _ dv];rfl
    have r3:wr.cell? ⟨w.heap.size+1+1+1,3,none⟩=some (.string ⟨#[]⟩):=by rw[cell_of_row _ _ _ _ _ _ dv];rfl
    have r4:wr.cell? ⟨w.heap.size+1+1+1,4,none⟩=some (.string ⟨#[]⟩):=by rw[cell_of_row _ _ _ _ _ _ dv];rfl
    have r5:wr.cell? ⟨w.heap.size+1+1+1,5,none⟩=some (.string ⟨#[]⟩):=by rw[cell_of_row _ _ _ _ _ _ dv];rfl
    have r6:wr.cell? ⟨w.heap.size+1+1+1,6,none⟩=some (.string ⟨#[]⟩):=by rw[cell_of_row _ _ _ _ _ _ dv];rfl
    have r7:wr.cell? ⟨w.heap.size+1+1+1,7,none⟩=some (.string ⟨#[]⟩):=by rw[cell_of_row _ _ _ _ _ _ dv];rfl
    have r8:wr.cell? ⟨w.heap.size+1+1+1,8,none⟩=some (.string ⟨#[]⟩):=by rw[cell_of_row _ _ _ _ _ _ dv];rfl
    have r9:wr.cell? ⟨w.heap.size+1+1+1,9,none⟩=some (.string ⟨#[]⟩):=by rw[cell_of_row _ _ _ _ _ _ dv];rfl
    have r10:wr.cell? ⟨w.heap.size+1+1+1,10,none⟩=some (.string ⟨#[]⟩):=by rw[cell_of_row _ _ _ _ _ _ dv];rfl
    have r11:wr.cell? ⟨w.heap.size+1+1+1,11,none⟩=some (.string ⟨#[]⟩):=by rw[cell_of_row _ _ _ _ _ _ dv];rfl
    have r12:wr.cell? ⟨w.heap.size+1+1+1,12,none⟩=some (.string ⟨#[]⟩):=by rw[cell_of_row _ _ _ _ _ _ dv];rfl
    have rf:∀o,wr.frozen? ⟨w.heap.size+1+1+1,o,none⟩=false:=fun o=>by simp[World.frozen?,dv]
    have pQ:Hid (wr.heap[w.heap.size+1+1+1]?=some (.cells (cG 0 (fun _=>⟨#[]⟩) (fun _=>⟨#[]⟩)) 369 (0,0))):=dv
    clear ud e1 Wa bV fE TV Ei Ek dv
    go_wp2_with fail
    change bodyPost Tryz.prog _ _ _ _ (FU wr (w.heap.size+1+1+1) n X Y)
    obtain⟨hu,P3⟩:=s5 (n:=n) (X:=X) (Y:=Y) pQ.out
    generalize FU wr (w.heap.size+1+1+1) n X Y=wz at hu P3 ⊢
    have P9:Below w.heap.size w wz:=P3.aK oq (by omega) (fun i hi=>by simp at hi;omega)
    have z:=ab hu
    have hwz:=lt_of_heap hu
    refine bodyPost_ret (v:=.tuple #[.agg (cG n X Y),.bool true]) ?_ rfl ⟨P9,.inr ⟨b,n,X,Y,HF.out,hb,by omega,rfl⟩⟩
    unfold cG at z ⊢
    simp[results,Tryz.results266,go_sem,z]
theorem Kn(w:World)(b0:En.Bind)(n0:Nat)(X0 Y0:Nat→ByteArray)(bK:BM b0 n0 X0 Y0)(a:Ax.Atom)(ad:Option Addr)(ac:Nat)(pr x y z:ByteArray)
 (ha:MA.ok w (a,.slice ad a.ag.length ac))(hk:∀t,t∈a.ag→t.kind=0∨t.kind=1)(h3:a.ag.length≤3)(hn:n0+a.ag.length≤6):
 Calls Tryz.prog 266 #[.agg (cG n0 X0 Y0),.agg #[.int .i64 a.at_,.string a.pred,.slice ad a.ag.length ac],.agg #[.string pr,.string x,.string y,.string z]] w (Mq w (En.dd a (pr,[x,y,z]) b0) (n0+a.ag.length)):=by
 unfold En.dd
 by_cases hp:a.pred=pr
 · rw[if_pos hp]
   exact JD w b0 n0 X0 Y0 bK a ad ac pr x y z hp ha hk h3 hn
 · rw[if_neg hp]
   exact M8 w b0 n0 X0 Y0 a ad ac _ pr x y z hp
end
/- Package follow: fact. -/
section
open Go.RowKit
open Go.Sort (grow)
def fm(f:Nat→ByteArray)(k:Nat):Nat→ByteArray:=fun i=>if i<k then f i else ⟨#[]⟩
def ll(pr:ByteArray)(F:Nat→ByteArray):Array Value:=#[.string pr,.string (F 0),.string (F 1),.string (F 2)]
theorem Nj{pr:ByteArray}{f:Nat→ByteArray}{k:Nat}(hk:k<3){v:ByteArray}(hv:f k=v):(ll pr (fm f k)).setIfInBounds (1+k) (.string v)=ll pr (fm f (k+1)):=by
 subst hv
 have:k=0∨k=1∨k=2:=by omega
 rcases this with rfl | rfl | rfl<;>rfl
theorem L8{pr:ByteArray}{F:Nat→ByteArray}{k:Nat}(hk:k<3):(ll pr F)[1+k]?=some (.string (F k)):=by
 have:k=0∨k=1∨k=2:=by omega
 rcases this with rfl | rfl | rfl<;>rfl
def Kj(ts:List Ax.Term)(s:ByteArray→ByteArray):Nat→ByteArray:=fun i=>((ts[i]?).map (En.dD s)).getD ⟨#[]⟩
theorem Pt(pr:ByteArray)(ts:List Ax.Term)(s:ByteArray→ByteArray)(h:ts.length≤3):ll pr (fm (Kj ts s) ts.length)=#[.string pr,.string ((En.pad (ts.map (En.dD s)))[0]?.getD ⟨#[]⟩),.string ((En.pad (ts.map (En.dD s)))[1]?.getD ⟨#[]⟩),.string ((En.pad (ts.map (En.dD s)))[2]?.getD ⟨#[]⟩)]:=by
 match ts,h with
 | [],_=>rfl
 | [_],_=>rfl
 | [_,_],_=>rfl
 | [_,_,_],_=>rfl
theorem Jz{l:List ByteArray}(h:l.length≤3):∃a b c,En.pad l=[a,b,c]:=by
 match l,h with
 | [],_=>exact⟨_,_,_,rfl⟩
 | [_],_=>exact⟨_,_,_,rfl⟩
 | [_,_],_=>exact⟨_,_,_,rfl⟩
 | [_,_,_],_=>exact⟨_,_,_,rfl⟩
def Oe(w:World)(r:Nat)(pr:ByteArray)(F:Nat→ByteArray):World:=(((w.setCell ⟨r,0,none⟩ (.string pr)).setCell ⟨r,1,none⟩ (.string (F 0))).setCell ⟨r,2,none⟩ (.string (F 1))).setCell ⟨r,3,none⟩ (.string (F 2))
theorem KF{w:World}{r:Nat}{q pr:ByteArray}{G F:Nat→ByteArray}{T:TypeId}(h:w.heap[r]?=some (.cells (ll q G) T (0,0))):(Oe w r pr F).heap[r]?=some (.cells (ll pr F) T (0,0))∧Kb [r] w (Oe w r pr F):=by
 have h0:=an _ h 0 (.string pr)
 have h1:=an _ h0 1 (.string (F 0))
 have h2:=an _ h1 2 (.string (F 1))
 have h3:=an _ h2 3 (.string (F 2))
 refine⟨by simpa [Oe,ll]using h3, ?_⟩
 exact(((Kb.setCell w ⟨r,0,none⟩ (.string pr)).trans (Kb.setCell _ ⟨r,1,none⟩ (.string (F 0)))).trans (Kb.setCell _ ⟨r,2,none⟩ (.string (F 1)))).trans (Kb.setCell _ ⟨r,3,none⟩ (.string (F 2)))
theorem RP(w:World)(o1 o2 o3:Obj):Below w.heap.size w (((w.alloc o1).alloc o2).alloc o3)∧(((w.alloc o1).alloc o2).alloc o3).heap.size=w.heap.size+3∧(((w.alloc o1).alloc o2).alloc o3).heap[w.heap.size+1]?=some o2∧(((w.alloc o1).alloc o2).alloc o3).heap[w.heap.size+1+1]?=some o3:=by
 refine⟨(((Below.refl _ _).alloc (Nat.le_refl _) _).alloc (by simp) _).alloc (by simp;omega) _,by simp, ?_, ?_⟩
 · rw[Below.heap_alloc _ _ _ (by simp)]
   have:=heap_alloc_new (w.alloc o1) o2
   simpa using this
 · have:=heap_alloc_new ((w.alloc o1).alloc o2) o3
   simpa using this
theorem M0(w:World)(g n:Nat)(X Y:Nat→ByteArray)(b:En.Bind)(hb:BM b n X Y)(hg:w.heap[g]?=some (.cells (cG n X Y) 369 (0,0)))(a:Ax.Atom)(ad:Option Addr)(ac:Nat)
 (ha:MA.ok w (a,.slice ad a.ag.length ac))(hk:∀t,t∈a.ag→t.kind=0∨t.kind=1)(h3:a.ag.length≤3):
 Calls Tryz.prog 265 #[.pointer (some ⟨g,0,none⟩),.agg #[.int .i64 a.at_,.string a.pred,.slice ad a.ag.length ac]] w fun e w'=>Below w.heap.size w w'∧e=.returned (.agg (ll a.pred (fm (Kj a.ag (En.val b)) a.ag.length))):=by
 have mh:=lt_of_heap hg
 unfold MA.ok at ha
 simp only at ha
 have hle:=aZ ha
 have HK:Hid (∀t,t∈a.ag→t.kind=0∨t.kind=1):=hk
 clear hk
 generalize hf:Kj a.ag (En.val b)=f
 have HF:Hid (Kj a.ag (En.val b)=f):=hf
 clear hf
 go_enter Tryz.func265,Tryz.ntmps265
 go_wp2_with fail
 change Code.wp Tryz.prog _ _ _ (((w.alloc (.cells #[.int .i64 a.at_,.string a.pred,.slice ad a.ag.length ac] 219)).alloc (.cells (ll ⟨#[]⟩ (fm f 0)) 325)).alloc (.cells (ll a.pred (fm f 0)) 325))
 obtain⟨mb,ms,Ek,Ei⟩:=RP w (.cells #[.int .i64 a.at_,.string a.pred,.slice ad a.ag.length ac] 219) (.cells (ll ⟨#[]⟩ (fm f 0)) 325) (.cells (ll a.pred (fm f 0)) 325)
 generalize (((w.alloc (.cells #[.int .i64 a.at_,.string a.pred,.slice ad a.ag.length ac] 219)).alloc (.cells (ll ⟨#[]⟩ (fm f 0)) 325)).alloc (.cells (ll a.pred (fm f 0)) 325))=w0 at mb ms Ek Ei ⊢
 have nD:w0.heap[g]?=some (.cells (cG n X Y) 369 (0,0)):=by rw[mb.block _ mh];exact hg
 go_loopw [14] (fun iv wr=>∃k:Nat,k≤a.ag.length∧iv=.int .i64 k∧wr.heap[w.heap.size+1+1]?=some (.cells (ll a.pred (fm f k)) 325 (0,0))∧Kb [w.heap.size+1+1] w0 wr) (fun iv _=>a.ag.length-(intOf iv).toNat)
 case atStart=>exact⟨0,Nat.zero_le _,rfl,Ei,Kb.refl _ _⟩
 case round=>
  obtain⟨k,KL,rfl,PR,fC⟩:=hrel
  have cr:=fC.size
  have bV:wr.ownsRow 0 310 2 (.slice ad a.ag.length ac) a.ag.length (b9 a.ag):=fC.row (af ha mb) (fun q hq hm=>by
   simp only[List.mem_singleton]at hm
   have:=(World.ownsRow.lt ha q hq).2
   omega)
  have dv:wr.heap[w.heap.size+1]?=some (.cells (ll ⟨#[]⟩ (fm f 0)) 325 (0,0)):=fC.heap Ek (by simp only[List.mem_singleton];omega)
  have AG:wr.heap[g]?=some (.cells (cG n X Y) 369 (0,0)):=fC.heap nD (by simp only[List.mem_singleton];omega)
  have oq:Below w.heap.size w wr:=fC.aK mb (by omega) (fun i hi=>by simp at hi;omega)
  have L7:w.heap.size+1+1<wr.heap.size:=by omega
  by_cases aC:k<a.ag.length
  · obtain⟨tg,rfl,lY,htc,vw⟩:=ax bV (by omega)
    obtain⟨y0,y1⟩:=fg a.ag k aC
    have d0:=vw _ _ y0
    have d1:=vw _ _ y1
    have UY:=HK.out _ (List.getElem_mem aC)
    have hfk:f k=En.dD (En.val b) a.ag[k]:=by rw[←HF.out];simp[Kj,List.getElem?_eq_getElem aC]
    generalize a.ag[k]=t at d0 d1 UY hfk
    obtain⟨tk,tt⟩:=t
    simp only at d0 d1
    have iG:∀W,Below wr.heap.size wr W→Calls Tryz.prog 286 #[.pointer (some ⟨g,0,none⟩),.agg #[.int .i64 tk,.string tt]] W fun e w'=>e=.returned (.string (En.dD (En.val b) ⟨tk,tt⟩))∧Below W.heap.size W w':=fun W hW=>E8 W g n X Y b hb ⟨tk,tt⟩ UY (by rw[hW.block _ (by omega)];exact AG)
    rw[←hfk]at iG
    generalize hv:f k=v at iG
    have HV:Hid (f k=v):=hv
    clear vw bV Ei Ek y0 y1 UY hfk AG hg nD hv dv
    go_wp2_with (go_at_call 286;refine(iG _ (by exact(Below.refl _ _).alloc (Nat.le_refl _) _)).mono ?_;rintro e w1 ⟨rfl,bk⟩;have fY:Below wr.heap.size wr w1:=((Below.refl _ _).alloc (Nat.le_refl _) _).trans (bk.mono (by simp));have Rv:w1.heap[w.heap.size+1+1]?=some (.cells (ll a.pred (fm f k)) 325 (0,0)):=(by rw[fY.block _ L7];exact PR);have kW:=fY.size;have UW:w.heap.size+1+1<w1.heap.size:=(by omega);have fx:(w1.cell? ⟨w.heap.size+1+1,1+k,none⟩)=some (.string (fm f k k)):=(by rw[cell_of_row _ _ _ _ _ _ Rv];exact L8 (by omega));have fz:w1.frozen? ⟨w.heap.size+1+1,1+k,none⟩=false:=(by simp[World.frozen?,Rv]);have adP:Hid (w1.heap[w.heap.size+1+1]?=some (.cells (ll a.pred (fm f k)) 325 (0,0))):=Rv;clear bk iG Rv)
    have sj:=an w1 adP.out (1+k) (.string v)
    rw[Nj (by omega) HV.out]at sj
    go_roundw
    case rel=>exact⟨k+1,by omega,by go_num,sj,(fC.below fY).trans (Kb.setCell w1 ⟨w.heap.size+1+1,1+k,none⟩ (.string v))⟩
    case measure=>simp[intOf];omega
  · have abX:k=a.ag.length:=by omega
    subst abX
    have q0:wr.cell? ⟨w.heap.size+1+1,0,none⟩=some (.string a.pred):=by rw[cell_of_row _ _ _ _ _ _ PR];rfl
    have q1:wr.cell? ⟨w.heap.size+1+1,1,none⟩=some (.string (fm f a.ag.length 0)):=by rw[cell_of_row _ _ _ _ _ _ PR];rfl
    have q2:wr.cell? ⟨w.heap.size+1+1,2,none⟩=some (.string (fm f a.ag.length 1)):=by rw[cell_of_row _ _ _ _ _ _ PR];rfl
    have q3:wr.cell? ⟨w.heap.size+1+1,3,none⟩=some (.string (fm f a.ag.length 2)):=by rw[cell_of_row _ _ _ _ _ _ PR];rfl
    have r0:wr.cell? ⟨w.heap.size+1,0,none⟩=some (.string ⟨#[]⟩):=by rw[cell_of_row _ _ _ _ _ _ dv];rfl
    have r1:wr.cell? ⟨w.heap.size+1,1,none⟩=some (.string ⟨#[]⟩):=by rw[cell_of_row _ _ _ _ _ _ dv];rfl
    have r2:wr.cell? ⟨w.heap.size+1,2,none⟩=some (.string ⟨#[]⟩):=by rw[cell_of_row _ _ _ _ _ _ dv];rfl
    have r3:wr.cell? ⟨w.heap.size+1,3,none⟩=some (.string ⟨#[]⟩):=by rw[cell_of_row _ _ _ _ _ _ dv];rfl
    have rf:∀o,wr.frozen? ⟨w.heap.size+1,o,none⟩=false:=fun o=>by simp[World.frozen?,dv]
    have pQ:Hid (wr.heap[w.heap.size+1]?=some (.cells (ll ⟨#[]⟩ (fm f 0)) 325 (0,0))):=dv
    have X2:w.heap.size+1<wr.heap.size:=by omega
    clear PR bV Ei Ek dv AG hg nD
    go_wp2_with fail
    change bodyPost Tryz.prog _ _ _ _ (Oe wr (w.heap.size+1) a.pred (fm f a.ag.length))
    obtain⟨hu,P3⟩:=KF (pr:=a.pred) (F:=fm f a.ag.length) pQ.out
    generalize Oe wr (w.heap.size+1) a.pred (fm f a.ag.length)=wz at hu P3 ⊢
    have P9:Below w.heap.size w wz:=P3.aK oq (by omega) (fun i hi=>by simp at hi;omega)
    have zc:=ab hu
    have hwz:=lt_of_heap hu
    refine bodyPost_ret (v:=.agg (ll a.pred (fm f a.ag.length))) ?_ rfl ⟨P9,rfl⟩
    unfold ll at zc ⊢
    simp[results,Tryz.results265,go_sem,zc]
end
end Go.Proofs.YtdmicblafmhflaaGreatDoor

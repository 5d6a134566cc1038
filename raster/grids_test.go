package raster_test

import (
	"slices"
	"testing"

	"darkroom/api"
	"darkroom/grid"
	"darkroom/probe"
	"darkroom/raster"
)

// mustGrid answers an image's grid.
func mustGrid(t *testing.T, m api.Image) *grid.Grid[api.Color] {
	t.Helper()
	g, e := raster.Grid(m)
	if g == nil || e != api.OK {
		t.Fatalf("Grid(%s) = %v, %d", probe.Told(m), g, e)
	}
	return g
}

// mustOf answers a grid's image.
func mustOf(t *testing.T, g *grid.Grid[api.Color]) api.Image {
	t.Helper()
	m, e := raster.Of(g)
	if e != api.OK {
		t.Fatalf("Of: %d", e)
	}
	return m
}

// P9.2: a grid's cells are the image's pixels, and there and back is the image.
func TestGrid(t *testing.T) {
	for _, s := range probe.Sizes() {
		m := probe.Image(6, s.W, s.H)
		for _, given := range []api.Image{m, probe.RoomyImage(m)} {
			g := mustGrid(t, given)
			if g.W() != s.W || g.H() != s.H || !slices.Equal(g.Cells(), plainColors(m)) {
				t.Errorf("%s has a grid of %d by %d", probe.Told(m), g.W(), g.H())
			}
			back, e := raster.Of(g)
			wantImage(t, "Of", back, e, m)
		}
	}
}

// P9.2: one pixel, a row, a column, told one by one.
func TestGridExamples(t *testing.T) {
	m := api.Image{W: 2, H: 1, Pix: []uint16{1, 2, 3, 4, 5, 6, 7, 8}}
	want := []api.Color{{R: 1, G: 2, B: 3, A: 4}, {R: 5, G: 6, B: 7, A: 8}}
	if g := mustGrid(t, m); !slices.Equal(g.Cells(), want) {
		t.Error(g.Cells())
	}
	m.W, m.H = 1, 2
	g := mustGrid(t, m)
	if c, ok := g.At(0, 1); c != want[1] || !ok || !slices.Equal(g.Cells(), want) {
		t.Error(g.Cells())
	}
	m = api.Image{W: 1, H: 1, Pix: []uint16{65535, 0, 65534, 1}}
	if g := mustGrid(t, m); !slices.Equal(g.Cells(), []api.Color{{R: 65535, B: 65534, A: 1}}) {
		t.Error(g.Cells())
	}
}

// P9.2: images that aren't good have no grid.
func TestGridOfNotGood(t *testing.T) {
	for _, m := range probe.BadImages() {
		if g, e := raster.Grid(m); g != nil || e != api.ErrImage {
			t.Errorf("Grid(%s) = %v, %d", probe.Told(m), g, e)
		}
	}
}

// P9.2: a nil grid has no image.
func TestOfNil(t *testing.T) {
	m, e := raster.Of(nil)
	wantNoImage(t, "Of(nil)", m, e, api.ErrNil)
	var none *grid.Grid[api.Color]
	m, e = raster.Of(none)
	wantNoImage(t, "Of(nil)", m, e, api.ErrNil)
}

// P9.2: grids as they are made, and there and back.
func TestOf(t *testing.T) {
	for _, s := range probe.Sizes() {
		colors := probe.Colors(7, s.W*s.H)
		g, _ := grid.Of(s.W, s.H, colors)
		m, e := raster.Of(g)
		wantImage(t, "Of", m, e, probe.ImageOf(s.W, s.H, colors))
		if h := mustGrid(t, m); h.W() != s.W || h.H() != s.H || !slices.Equal(h.Cells(), colors) || !raster.Good(m) {
			t.Errorf("%v: there and back is another one", s)
		}
		empty, _ := grid.New[api.Color](s.W, s.H)
		m, e = raster.Of(empty)
		wantImage(t, "Of", m, e, api.Image{W: s.W, H: s.H, Pix: make([]uint16, 4*s.W*s.H)})
	}
}

// P9.2: a part of a grid, cells that were set, and a grid of what came of cells.
func TestOfWhatBecame(t *testing.T) {
	g := mustGrid(t, probe.ImageOf(3, 2, []api.Color{{R: 1}, {G: 2}, {B: 3}, {A: 4}, {R: 5}, {G: 6}}))
	part, _ := g.Crop(1, 0, 2, 2)
	m, e := raster.Of(part)
	wantImage(t, "Of a part", m, e, probe.ImageOf(2, 2, []api.Color{{G: 2}, {B: 3}, {R: 5}, {G: 6}}))
	g.Set(2, 1, api.Color{R: 9, G: 8, B: 7, A: 6})
	m, e = raster.Of(g)
	wantImage(t, "Of", m, e, probe.ImageOf(3, 2, []api.Color{{R: 1}, {G: 2}, {B: 3}, {A: 4}, {R: 5}, {R: 9, G: 8, B: 7, A: 6}}))
	m, e = raster.Of(grid.Map(part, func(c api.Color) api.Color { return api.Color{A: c.G} }))
	wantImage(t, "Of what Map made", m, e, probe.ImageOf(2, 2, []api.Color{{A: 2}, {}, {}, {A: 6}}))
}

// R4: a grid, the image that it is of, and one that is made of it, are several.
func TestGridsAreNew(t *testing.T) {
	m := probe.Image(8, 3, 2)
	colors := plainColors(m)
	given, all := probe.Roomy(m.Pix)
	g, h := mustGrid(t, api.Image{W: 3, H: 2, Pix: given}), mustGrid(t, m)
	probe.Spoil(all)
	if !slices.Equal(g.Cells(), colors) {
		t.Error("a grid keeps what was handed in")
	}
	before := slices.Clone(all)
	first, second := mustOf(t, g), mustOf(t, g)
	for p := range g.All() {
		g.Set(p.X, p.Y, api.Color{R: 99})
	}
	if !slices.Equal(all, before) || !slices.Equal(h.Cells(), colors) || !raster.Same(first, m) {
		t.Error("a Set changes what was handed in or answered")
	}
	probe.Spoil(first.Pix)
	if !raster.Same(second, m) || !slices.Equal(g.Cells(), slices.Repeat([]api.Color{{R: 99}}, 6)) {
		t.Error("answers share memory")
	}
}
